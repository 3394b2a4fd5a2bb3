import PyProof.Rows.All
import Wide.All
import OpenK.AllK
import Wide.FinOn
import HandS.ForMost
import HandS.ForExc
import HandS.Codes
import HandS.Lambda
import HandS.Nested
import HandS.EndTab
import HandS.ExcIs
import HandS.IsInst
import HandS.RaiseMore
import HandS.FStr
import HandS.Wide
import HandS.SetFor
import KE.KNestM
import HandS.Gcd
import KE.KMathGC
import HandS.CallSlots
import HandS.Defaults
import HandS.Flow
import HandS.NoneIn
import PyProof.GenCompD
import HandS.AnyAll
import HandS.JoinGen
import HandS.Strs
import HandS.SortRule
import KE.SortKeyHeap
import HandS.SortKw
import KE.KSortKey
import HandS.Conv
import HandS.Dict
import HandS.WordsDict
import HandS.Iter
import KE.KDictList
import KE.KEqDict
import HandS.Walk
import HandS.Comp
import PySem.Challenge.RW_wraptime_k08_orders_within_a_span
set_option Elab.async false
set_option linter.all false
set_option maxRecDepth 100000
set_option maxHeartbeats 8000000
namespace Lx
open PySem PySem.Spec PyProof.Rows L2 LamX NdefX
/-! ### lambdas as values -/
/-- the object at f is the lambda F (its body eb) -/
def LmO (f : Addr) (F : NF) (eb : Expr) : HO := .ext fun h => ∃ pm ctv : Value,
  h.get? f = some (PySem.W.kla_obj "<lambda>" F.qual F.params eb F.scope F.cl pm F.c ctv)
theorem lmO_at {P : Program} {w : World} {H : Hp} {h : Heap} {f : Addr} {F : NF} {eb : Expr}
    (ok : HOk P w H h) (e : H f = some (LmO f F eb)) :
    ∃ pm ctv : Value, h.get? f = some (PySem.W.kla_obj "<lambda>" F.qual F.params eb F.scope F.cl pm F.c ctv) :=
  (ok f _ e).1
theorem lmO_ne {f : Addr} {F : NF} {eb : Expr} (ps : Array Value) : LmO f F eb ≠ .tbl ps := fun z => by
  unfold LmO at z; cases z
/-- the lambda as it is made in X -/
abbrev lamNF (X : Cx) (params : Arguments) (scope : Scope) (c' : Addr) : NF :=
  ⟨"<lambda>", X.env.qual ++ "<lambda>", params, [], scope, cloFrom X.env.cells scope.names [], c'⟩
section
variable {X : Cx} {pins : List (Addr × Obj)} {σ : L2.St} {H : Hp} {s : Shared}
theorem inv_lm {F : NF} {eb : Expr} {pm ctv : Value} {tk : Nat} (I : Inv X pins σ H s) :
    Inv X pins σ (upd H s.heap.objs.size (LmO s.heap.objs.size F eb))
      { s with heap := s.heap.push (PySem.W.kla_obj "<lambda>" F.qual F.params eb F.scope F.cl pm F.c ctv), toks := tk } := by
  refine I.laid (a := s.heap.objs.size) (fun b u e => Heap.get?_push_of_some _ e) (Nat.le_refl _) ?_
  have at_ : (s.heap.push (PySem.W.kla_obj "<lambda>" F.qual F.params eb F.scope F.cl pm F.c ctv)).get? s.heap.objs.size
      = some (PySem.W.kla_obj "<lambda>" F.qual F.params eb F.scope F.cl pm F.c ctv) := Heap.get?_push_size _ rfl
  exact ⟨⟨pm, ctv, at_⟩, ⟨_, at_⟩, fun h1 h2 ⟨p, t, z⟩ st => ⟨p, t, st _ z⟩⟩
/-- a lambda is made and tracked -/
theorem lam_mk {T : List (Addr × Str)} {c P : Addr} {params : Arguments} {body : Expr} {scope : Scope} {pos : Pos}
    {E : Value → Shared → Prop} {Q : Value → Shared → Prop} (I : Inv X pins σ H s) (TB : TabB X.base X.mg c P)
    (hcode : X.env.code = .ref c) (hm : (P, X.env.qual ++ "<lambda>") ∈ T)
    (hu : ∀ p ∈ T, p.1 = P → p.2 = X.env.qual ++ "<lambda>") (hT : Tabs T H) (hdef : defaultsOf params X.env = ([], []))
    (hfree : ∀ y ∈ scope.names, y.2 = .free → ∃ c, X.env.cells.lookup y.1 = some c)
    (h : ∀ (f c' : Addr) (H1 : Hp) (s' : Shared), Inv X pins σ H1 s' → ExtN H H1 → Tabs T H1 → H f = none →
      H1 f = some (LmO f (lamNF X params scope c') body) → H1 c' = some (CodeO c' (X.env.qual ++ "<lambda>")) → Q (.ref f) s') :
    wpAny (model X.prog X.w) X.A (eval (.Lambda params body scope pos) X.env) Q E s := by
  obtain ⟨ps, hP, ht, ha⟩ := hT _ hm
  have bP := TB.bm.keeps I.bk
  have gP : s.heap.get? P = some { cls := .none, data := .fields ps } := I.hok P _ hP
  have code := TB.code.keeps I.bk
  have glob := I.mod.glob.keeps I.bk
  refine PySem.W.kla_eval hdef ?_
  cases hc : codeAmong pos ps.toList with
  | some cv =>
    obtain ⟨c', rfl, hco⟩ := ha pos cv hc
    refine PySem.W.kla_makeFunctionHit (mg := X.mg) (c := c) (P := P) (ps := ps) (closure_ok hfree) I.ok.glob glob hcode code gP ht hc bP ?_
    intro ctv h' tk old hsz
    have J : Inv X pins σ H { s with heap := h', toks := tk } := I.kept old
    have nF : H h'.objs.size = none := J.hok.fresh (Nat.le_refl _)
    have keep : ∀ b o, H b = some o → (upd H h'.objs.size (LmO h'.objs.size (lamNF X params scope c') body)) b = some o := by
      intro b o e
      exact (upd_ne (ne_of_none e nF)).trans e
    refine h h'.objs.size c' _ _ (inv_lm (F := lamNF X params scope c') (eb := body) (tk := tk) J) (ExtN.of keep) (hT.ext keep) nF upd_same (keep _ _ hco)
  | none =>
    refine PySem.W.kla_makeFunction (mg := X.mg) (c := c) (P := P) (ps := ps) (closure_ok hfree) I.ok.glob glob hcode code gP ht hc TB.gP bP ?_
    intro c' ctv h' tk hx hge hlt hrec htb
    obtain ⟨c2, oc, vs, t, e2, hoc, hd, hv⟩ := hrec
    cases e2
    have nC : H c' = none := I.hok.fresh hge
    have J := inv_table (t' := tk) (more := #[rawInt pos.line, rawInt pos.col, .ref c']) (h' := h') I hP
      (fun b o hb e => hx b o hb e) htb hge ⟨oc, vs, t, hoc, hd, hv⟩
    generalize hH1 : upd (upd H P (.tbl (ps ++ #[rawInt pos.line, rawInt pos.col, .ref c']))) c' (CodeO c' (X.env.qual ++ "<lambda>")) = H1 at J
    have ePc : P ≠ c' := ne_of_none hP nC
    have atc : H1 c' = some (CodeO c' (X.env.qual ++ "<lambda>")) := by rw [← hH1]; exact upd_same
    have atP : H1 P = some (.tbl (ps ++ #[rawInt pos.line, rawInt pos.col, .ref c'])) := by
      rw [← hH1, upd_ne ePc, upd_same]
    have ext : ExtN H H1 := by
      intro b o e n
      have h1 : b ≠ P := fun z => n ps (Option.some.inj (e.symm.trans (by rw [z]; exact hP)))
      rw [← hH1, upd_ne (ne_of_none e nC), upd_ne h1]
      exact e
    have nF : H1 h'.objs.size = none := J.hok.fresh (Nat.le_refl _)
    have nF0 : H h'.objs.size = none := I.hok.fresh (Nat.le_trans hge (Nat.le_of_lt hlt))
    have T1 : Tabs T H1 := by
      intro p hp
      by_cases hb : p.1 = P
      · have hl : (ps ++ #[rawInt pos.line, rawInt pos.col, Value.ref c']).toList = ps.toList ++ [rawInt pos.line, rawInt pos.col, Value.ref c'] := by simp
        rw [hu p hp hb, hb]
        refine ⟨_, atP, ?_, ?_⟩
        · rw [hl]
          exact PySem.TriplesOk_snoc _ _ _ _ ht
        · intro p' cv hcv
          rw [hl] at hcv
          rcases among_app _ ht hcv with z | z
          · obtain ⟨c0, e1, e2⟩ := ha p' cv z
            exact ⟨c0, e1, ext _ _ e2 codeO_ne⟩
          · exact ⟨c', z, atc⟩
      · obtain ⟨ps', a1, a2, a3⟩ := hT p hp
        have a1' : H1 p.1 = some (.tbl ps') := by
          rw [← hH1, upd_ne (ne_of_none a1 nC), upd_ne hb]
          exact a1
        refine ⟨ps', a1', a2, fun p' cv hcv => ?_⟩
        obtain ⟨c0, e1, e2⟩ := a3 p' cv hcv
        exact ⟨c0, e1, ext _ _ e2 codeO_ne⟩
    have keep : ∀ b o, H1 b = some o → (upd H1 h'.objs.size (LmO h'.objs.size (lamNF X params scope c') body)) b = some o := by
      intro b o e
      exact (upd_ne (ne_of_none e nF)).trans e
    refine h h'.objs.size c' _ _ (inv_lm (F := lamNF X params scope c') (eb := body) (tk := tk) J) (fun b o e n => keep _ _ (ext b o e n)) (T1.ext keep) nF0 upd_same (keep _ _ atc)
end
/-- lambda: body, as a value -/
def tLm (X : Cx) (T : List (Addr × Str)) (params : Arguments) (body : Expr) (scope : Scope) : TE := fun _ H Q =>
  Tabs T H ∧ ∀ (f c' : Addr) (H1 : Hp), ExtN H H1 → Tabs T H1 → H f = none → H1 f = some (LmO f (lamNF X params scope c') body) →
    H1 c' = some (CodeO c' (X.env.qual ++ "<lambda>")) → Q (.ref f) H1
theorem pe_lm {X : Cx} {T : List (Addr × Str)} {c P : Addr} {params : Arguments} {body : Expr} {scope : Scope} {pos : Pos}
    (TB : TabB X.base X.mg c P) (hcode : X.env.code = .ref c) (hm : (P, X.env.qual ++ "<lambda>") ∈ T)
    (hu : ∀ p ∈ T, p.1 = P → p.2 = X.env.qual ++ "<lambda>") (hsc : LamS X.env.scope scope)
    (hdef : defaultsOf params X.env = ([], []) := by rfl) :
    PE X (.Lambda params body scope pos) (tLm X T params body scope) := by
  refine ⟨fun pins s σ H Q I h => ?_⟩
  obtain ⟨hT, h⟩ := h
  refine lam_mk I TB hcode hm hu hT hdef (hsc.has I.ok) ?_
  intro f c' H1 s' I1 x t n e1 e2
  exact ⟨.ref f, H1, I1, rfl, h f c' H1 x t n e1 e2⟩
/-! ### what a lambda promises -/
structure LOk (P : Program) (w : World) (K : PySem.W.Frag) (mg : Str → Option Value) (base : Heap) (CX : CXT) (k : Nat)
    (f : Addr) (F : NF) (eb : Expr) (fr : List Str) (sp : List (Option V) → Hp → VK → XK → Prop) : Prop where
  run : ∀ (A : Around) (outer : List Env) (s : Shared) (H : Hp) (ws : List (Option V)) (Q : VK) (E : XK),
    Room k A → Env0 P w K mg base A outer s H → H f = some (LmO f F eb) → H F.c = some (CodeO F.c F.qual) →
    CellsAt F.cl fr ws s.heap H → sp ws H Q E → codeAny (model P w) A (.call (.ref f) ⟨[], []⟩) (CR CX outer P w H s Q E) s
theorem lok_of {P : Program} {w : World} {K : PySem.W.Frag} {mg : Str → Option Value} {base : Heap} {CX : CXT} {k : Nat}
    {f : Addr} {F : NF} {eb : Expr} {N fr : List Str} {sp : List (Option V) → Hp → VK → XK → Prop} (S : NScope N [] fr F.scope)
    (hb : ∀ pm ctv : Value, bindArgs (PySem.W.kla_fn "<lambda>" F.qual F.params eb F.scope F.cl pm (.ref F.c) ctv) ⟨[], []⟩ = pure [])
    (hbody : ∀ (A : Around) (outer : List Env) (s : Shared) (H : Hp) (ws : List (Option V)) (Q : VK) (E : XK),
      Room k (A.deeper (envF F f s.heap.objs.size)) → H f = some (LmO f F eb) → H F.c = some (CodeO F.c F.qual) →
      ws.length = fr.length → sp ws H Q E →
      ∃ t, PE (ncx CX P w K mg base N F f A outer s H E) eb t ∧ t (startF N [] ws) H Q) :
    LOk P w K mg base CX (k + 1) f F eb fr sp := by
  refine ⟨fun A outer s H ws Q E hr e0 hf hc C hsp => ?_⟩
  have lim : s.heap.NoLimit := e0.mod.nolimit.keeps fun b o e => (e0.bs b o e).1
  obtain ⟨pm, ctv, ho⟩ := lmO_at e0.hok hf
  refine PySem.W.kla_callFunE hr.depth ho rfl S.co S.gen rfl (codeO_at e0.hok hc) ?_
  rw [hb pm ctv]
  refine wpAny_pure (wpAny_newFunctionEnv S.nocell (fun y hy => absurd hy (by simp)) (fun h₁ hns hsb => ⟨lim.fresh _ hsb, ?_⟩) S.kind)
  have kp : ∀ b o, s.heap.get? b = some o → h₁.get? b = some o := by
    intro b o e
    exact hsb.extBut b o (Nat.ne_of_lt (Heap.lt_size e)) (Heap.get?_push_of_some _ e)
  show codeAny _ _ (.expr eb (envF F f s.heap.objs.size)) _ _
  obtain ⟨t, ht, hq⟩ := hbody A outer s H ws Q E (hr.deeper _) hf hc C.len hsp
  have I : Inv (ncx CX P w K mg base N F f A outer s H E) [] (startF N [] ws) H { s with heap := h₁, toks := s.toks + ([] : List (Str × Value)).length } :=
    inv_startN (us := []) S hr.hd e0 rfl .nil C hns kp
  refine PySem.W.kla_codeExpr (wpAny_mono (ht.run [] _ _ H Q I hq) (fun u s' z => ?_) fun e s' z => z)
  obtain ⟨v, H', J, rv, q⟩ := z
  exact ⟨v, H', J.os, J.bare, J.base, J.hok, rv, q⟩
/-! ### captured cells, later -/
section
variable {X : Cx} {pins : List (Addr × Obj)} {σ : L2.St} {H : Hp} {s : Shared} {cl : List (Str × Addr)} {fr : List Str} {ws : List (Option V)}
theorem cells_un {fs ex : List Addr} {H0 : Hp} {h0 h : Heap} (C : CellsAt cl fr ws h0 H0) (u : Un fs ex H0 H h0 h)
    (hx : ∀ y c, cl.lookup y = some c → c ∉ ex) : CellsAt cl fr ws h H := by
  have kp : ∀ y c, cl.lookup y = some c → ∀ v, h0.IsCell c v → h.IsCell c v := by
    intro y c e v z
    obtain ⟨o, ho, hd⟩ := z
    obtain ⟨sl, q⟩ := u.any ho (C.all y c e).1 (hx y c e)
    exact ⟨_, q, hd⟩
  refine ⟨C.len, fun y c e => ?_, C.inj, fun i y e => ?_⟩
  · obtain ⟨n, v, z⟩ := C.all y c e
    refine ⟨?_, v, kp y c e v z⟩
    obtain ⟨o, ho, _⟩ := z
    exact u.free c o ho n (hx y c e)
  · obtain ⟨c, hc, hv⟩ := C.has i y e
    refine ⟨c, hc, fun v ev => ?_⟩
    obtain ⟨u, r, z⟩ := hv v ev
    exact ⟨u, r, kp y c hc _ z⟩
end
end Lx

namespace Lx
open PySem PySem.Spec PyProof.Rows L2 LamX NdefX
/-! ### a(), a the name that holds a lambda; Z: the def that was handed it -/
section
variable {Z : Cx} {f : Addr} {F : NF} {eb : Expr} {fr : List Str} {ws : List (Option V)} {sp : List (Option V) → Hp → VK → XK → Prop}
def tLmCall (i : Nat) (f : Addr) (F : NF) (eb : Expr) (sp : Hp → VK → XK → Prop) (W : WX) : TE := fun σ H Q =>
  σ[i]? = some (some (.ref f)) ∧ H f = some (LmO f F eb) ∧ H F.c = some (CodeO F.c F.qual) ∧ sp H Q (WE W σ)
theorem pe_lmcall {k i : Nat} {a : Str} {W : WX} {p1 p2 : Pos}
    (L : LOk Z.prog Z.w Z.K Z.mg Z.base (L2.CX Z.prog Z.w) k f F eb fr sp) (hr : Room k Z.A)
    (C : CellsAt F.cl fr ws Z.s_0.heap Z.H_0) (hx : ∀ y c, F.cl.lookup y = some c → c ∉ Z.ex)
    (tk : Takes Z W) (hN : Z.N[i]? = some a) (hv : Vis Z.env.scope a)
    (hd : (a == ("__debug__" : Str)) = false := by decide) (hcd : (a == ("__classdict__" : Str)) = false := by decide) :
    PE Z (.Call (.Name a p1) [] [] p2) (tLmCall i f F eb (sp ws) W) := by
  refine ⟨fun pins s σ H Q I h => ?_⟩
  obtain ⟨hs, hf, hc, q⟩ := h
  refine wpAny_Call_Name_kw ?_
  refine thn ((pe_var (pos := p1) hN hv hd hcd).run pins s σ H (fun v H1 => v = .ref f ∧ H1 = H) I ⟨.ref f, hs, rfl, rfl⟩) ?_
  intro u s1 z
  obtain ⟨v, H1, I1, r1, rfl, rfl⟩ := z
  obtain rfl : u = Value.ref f := r1
  obtain ⟨pm, ctv, ho⟩ := lmO_at I1.hok hf
  refine PySem.W.callWith_F0 (first := []) ⟨_, _, _, _, ho⟩ ?_
  have run := L.run Z.A Z.stack s1 H1 ws Q (WE W σ) hr I1.env0 hf hc (cells_un C I1.base hx) q
  refine wpAny_call (codeAny_mono run fun r s' z => ?_)
  cases r with
  | error e => exact passAt tk σ pins H1 s1 e s' I1 z
  | ok fl =>
    cases fl with
    | ret u => exact I1.after z
    | next => exact z.elim
    | brk => exact z.elim
    | cont => exact z.elim
end
/-! ### the def that calls what it is handed -/
/-- TT: what it makes of the lambda's promise -/
abbrev TTy := (XK → Hp → VK → Prop) → Hp → VK → Prop
structure TakesLam (P : Program) (w : World) (K : PySem.W.Frag) (mg : Str → Option Value) (base : Heap) (k j : Nat) (g : Addr) (TT : TTy) : Prop where
  run : ∀ (A : Around) (outer : List Env) (s : Shared) (H : Hp) (f : Addr) (F : NF) (eb : Expr) (fr : List Str) (ws : List (Option V))
    (sp : List (Option V) → Hp → VK → XK → Prop) (Q : VK), Room k A → Env0 P w K mg base A outer s H →
    LOk P w K mg base (L2.CX P w) j f F eb fr sp → H f = some (LmO f F eb) → H F.c = some (CodeO F.c F.qual) → CellsAt F.cl fr ws s.heap H →
    TT (fun E HZ QZ => HZ f = some (LmO f F eb) ∧ HZ F.c = some (CodeO F.c F.qual) ∧ sp ws HZ QZ E) H Q →
    codeAny (model P w) A (.call (.ref g) ⟨[.ref f], []⟩) (CR L2.CX0 outer P w H s Q L2.E0) s
theorem takesLam_of {P : Program} {w : World} {K : PySem.W.Frag} {mg : Str → Option Value} {base : Heap} {k j : Nat} {g : Addr} {TT : TTy}
    {x a : Str} {st : Stmt} {fd : FuncData} {Ng : List Str} (D : L2.Fun K x x st g fd) (hb : L2.Binds K fd [a] []) (Sg : FnScope Ng [a] (defScope st))
    (hbody : ∀ (cdv : Value) (A : Around) (outer : List Env) (s : Shared) (H : Hp) (f : Addr) (F : NF) (eb : Expr) (fr : List Str) (ws : List (Option V))
      (sp : List (Option V) → Hp → VK → XK → Prop) (Q : VK), Room k (A.deeper (envOfC x (defScope st) s.heap.objs.size g cdv)) →
      LOk P w K mg base (L2.CX P w) j f F eb fr sp → CellsAt F.cl fr ws s.heap H →
      TT (fun E HZ QZ => HZ f = some (LmO f F eb) ∧ HZ F.c = some (CodeO F.c F.qual) ∧ sp ws HZ QZ E) H Q →
      ∃ t, PSs (cxOf L2.CX0 P w K mg base Ng x (defScope st) g cdv A outer s H L2.E0).nox (defBody st) t ∧
        t { nx := fun _ H' => Q .non H', rt := Q } (L2.start Ng [.ref f]) H) :
    TakesLam P w K mg base (k + 1) j g TT := by
  obtain ⟨oc, od, kV, doc, pm, an, cdv, ct, osl, rfl, lk, hcd⟩ := D.ex
  refine ⟨fun A outer s H f F eb fr ws sp Q hr e0 L hf hc C q => ?_⟩
  have KX : K.In s.heap := e0.mod.kin.keeps fun b o e => (e0.bs b o e).1
  refine run_ofS (N := Ng) (ps := [a]) (us := [.ref f]) (vs := [.ref f]) lk hcd Sg hr e0 (hb s [.ref f] KX rfl) (.cons rfl .nil) rfl fun hr' => ?_
  obtain ⟨t, h1, h2⟩ := hbody cdv A outer s H f F eb fr ws sp Q hr' L C q
  exact ⟨t, h1.nox, h2⟩
/-! ### .. called -/
/-- v is a lambda, its cells told by cells -/
def LamV (X : Cx) (j : Nat) (TT : TTy) (cells : NF → List Str → List (Option V) → Prop) (v : V) (H : Hp) (Q : VK) : Prop :=
  ∃ (f : Addr) (F : NF) (eb : Expr) (fr : List Str) (ws : List (Option V)) (sp : List (Option V) → Hp → VK → XK → Prop), v = .ref f ∧
    H f = some (LmO f F eb) ∧ H F.c = some (CodeO F.c F.qual) ∧ LOk X.prog X.w X.K X.mg X.base (L2.CX X.prog X.w) j f F eb fr sp ∧ cells F fr ws ∧
    TT (fun E HZ QZ => HZ f = some (LmO f F eb) ∧ HZ F.c = some (CodeO F.c F.qual) ∧ sp ws HZ QZ E) H Q
def tKind (X : Cx) (j : Nat) (TT : TTy) (cells : L2.St → NF → List Str → List (Option V) → Prop) (ta : TE) : TE := fun σ H Q =>
  ta σ H fun v H1 => LamV X j TT (cells σ) v H1 Q
theorem pe_kind {Z : Cx} {k j : Nat} {g : Addr} {TT : TTy} {cells : L2.St → NF → List Str → List (Option V) → Prop} {x : Str} {a : Expr} {ta : TE} {p pos : Pos}
    (G : TakesLam Z.prog Z.w Z.K Z.mg Z.base k j g TT) (hr : Room k Z.A)
    (hC : ∀ pins σ H s, Inv Z pins σ H s → ∀ F fr ws, cells σ F fr ws → CellsAt F.cl fr ws s.heap H)
    (hg : Gl Z x) (hm : Z.mg x = some (.ref g)) (hk : PySem.W.keepIn Z.K (.ref g) = true) (ha : PE Z a ta)
    (hdb : (x == ("__debug__" : Str)) = false := by decide) (he : starEach (a :: []) Z.env = (false, eval a Z.env) :: starEach [] Z.env := by rfl)
    (hpl : (backTo pos (starEach [] Z.env)).any (·.1) = false := by rfl) :
    PE Z (.Call (.Name x p) [a] [] pos) (tKind Z j TT cells ta) := by
  refine ⟨fun pins s σ H Q I h => ?_⟩
  refine wpAny_Call_Name_kw (ld_glob I hg hm ?_ hdb)
  have pa : PA Z [a] (tCons ta tNil) := pa_cons ha pa_nil he
  refine PySem.W.callWith_K (h₀ := Z.base) I.ok.mod.kin hk (thn (pa.run pos pins s σ H
    (fun vs H1 => ∃ v, vs = [v] ∧ LamV Z j TT (cells σ) v H1 Q) I ?_) ?_) he hpl
  · exact (show ta σ H fun v H1 => tNil σ H1 fun vs H2 => ∃ v', v :: vs = [v'] ∧ LamV Z j TT (cells σ) v' H2 Q from by
      have e : (fun (v : V) (H1 : Hp) => tNil σ H1 fun vs H2 => ∃ v', v :: vs = [v'] ∧ LamV Z j TT (cells σ) v' H2 Q) = fun v H1 => LamV Z j TT (cells σ) v H1 Q := by
        funext v H1
        refine propext ⟨fun ⟨v', e, z⟩ => ?_, fun z => ⟨v, rfl, z⟩⟩
        have e' : v = v' := by injection e
        rw [e']; exact z
      rw [e]; exact h)
  intro us s1 z
  obtain ⟨vs, H1, I1, r, v, rfl, f, F, eb, fr, ws, sp, rfl, hf, hc, L, hcl, q⟩ := z
  refine ⟨I1.kIn, ?_⟩
  cases r with
  | cons r1 rn =>
    rename_i u us
    cases rn
    obtain rfl : u = Value.ref f := r1
    show wpAny _ _ (call (.ref g) [.ref f]) _ _ _
    refine wpAny_call (codeAny_mono (G.run Z.A Z.stack s1 H1 f F eb fr ws sp Q hr I1.env0 L hf hc (hC _ _ _ _ I1 F fr ws hcl) q) fun r s' z => ?_)
    cases r with
    | error e => exact z.elim
    | ok fl =>
      cases fl with
      | ret u => exact I1.after z
      | next => exact z.elim
      | brk => exact z.elim
      | cont => exact z.elim
/-- the cells of the frame that runs -/
def ownCells (X : Cx) (σ : L2.St) (F : NF) (fr : List Str) (ws : List (Option V)) : Prop := ∃ js, (X.Ok → Caps X F.cl fr js) ∧ ws = js.map (slotAt σ)
theorem ownCells_at {X : Cx} : ∀ pins σ H s, Inv X pins σ H s → ∀ F fr ws, ownCells X σ F fr ws → CellsAt F.cl fr ws s.heap H := by
  intro pins σ H s I F fr ws h
  obtain ⟨js, c, rfl⟩ := h
  exact cells_of I (c I.ok)
/-- .. seen from a comprehension's block within it -/
theorem blkCells_at {X : Cx} {pins0 : List (Addr × Obj)} {σ0 : L2.St} {H0 : Hp} {s0 : Shared} {scope : Scope} {cenv : Env} {fp : List Addr}
    (I0 : Inv X pins0 σ0 H0 s0) (hfp : ∀ b ∈ fp, FpOk X pins0 H0 b) :
    ∀ pins σ H s, Inv (X.blk s0 H0 scope cenv fp) pins σ H s → ∀ F fr ws, ownCells X σ0 F fr ws → CellsAt F.cl fr ws s.heap H := by
  intro pins σ H s I F fr ws h
  obtain ⟨js, c0, rfl⟩ := h
  have c := c0 I0.ok
  refine cells_un (cells_of I0 c) I.base fun y a e hm => ?_
  exact (hfp a hm).2.2.2.2.1 y a (c.sub y a e) rfl
/-! ### a comprehension whose block knows the def's state -/
section
variable {X : Cx}
/-- the block's loop -/
theorem blk_loop {pins : List (Addr × Obj)} {σ : L2.St} {H3 : Hp} {s3 : Shared} {Q : VK} {elt tg iter : Expr} {ifs : List Expr} {scope : Scope} {vs : List Nat} {pos : Pos}
    {g : TG} {tt : TT} {te : TE} {fp : List Addr} {it D : Addr} {J : It} {tn : Nat → Heap → Prop} {ce : Env} {s4 : Shared} {R : Result → Shared → Prop}
    (hc : X.calm = true) (I3 : Inv X pins σ H3 s3) (f3 : ∀ b ∈ fp, FpOk X pins H3 b) (T : Turn X.prog X.w X.K tg J fp it tn)
    (I4 : Inv (X.blk s3 H3 scope ce fp) [] (wipe σ vs) H3 s4) (st4 : tn 0 s4.heap)
    (pg : PG (X.blk s3 H3 scope ce fp) tg g) (pt : PTs (X.blk s3 H3 scope ce fp) ifs tt) (pe : PE (X.blk s3 H3 scope ce fp) elt te)
    {W : Nat → Nat → Hp → Prop} (hW : ∃ m, W 0 m H3)
    (turn : ∀ i m H, W i m H → (J.stop i H ∧ Q (.ref D) H) ∨ (J.go i H ∧ ∃ Nx : Hp → Prop, (∀ H', Nx H' → ∃ m', m' < m ∧ W (i + 1) m' H') ∧
      ∀ x H', J.yld i H x H' → g x (wipe σ vs) H' fun σ2 H2 => wipe σ2 vs = wipe σ vs ∧ tt σ2 H2 fun b H3 =>
        if b = true then te σ2 H3 fun y H4 => ∃ acc, H4 D = some (.lst acc) ∧ acc.length < sizeLine ∧ Nx (upd H4 D (.lst (acc ++ [y]))) else Nx H3))
    (hR : ∀ s' H', Inv X pins σ H' s' → Q (.ref D) H' → H' ce.locals = none → (∃ m, s'.heap.Ns ce.locals m) → R (.ok .next) s') :
    codeAny (model X.prog X.w) X.A (.compLoop (.ListComp elt [⟨tg, iter, ifs, 0⟩] scope pos) 0 (.ref it) (.ref D) ce) R s4 := by
  obtain ⟨m0, w0⟩ := hW
  let Y := X.blk s3 H3 scope ce fp
  have fpY : ∀ {σ' : L2.St} {H' : Hp} {s' : Shared}, Inv Y [] σ' H' s' → (∀ b ∈ fp, H' b = none) → ∀ b ∈ fp, FpOk Y [] H' b := by
    intro σ' H' s' I' n b hb
    refine ⟨n b hb, (I'.ok.exf b hb).1, I'.ok.exfs b hb, .inl hb, (I'.ok.exf b hb).2, fun p hp => ?_⟩
    exact absurd (show p ∈ ([] : List (Addr × Obj)) ++ [] from hp) (by simp)
  refine compLoop_any (fun n s' => ∃ i H', Inv Y [] (wipe σ vs) H' s' ∧ tn i s'.heap ∧ (∀ b ∈ fp, H' b = none) ∧ W i n H') ?_ m0
    ⟨0, H3, I4, st4, fun b hb => (f3 b hb).1, w0⟩
  intro n s5 z
  obtain ⟨i, H5, I5, st5, n5, w5⟩ := z
  rcases turn i n H5 w5 with ⟨stop, done⟩ | ⟨go, Nx, hNx, step⟩
  · -- no further item: the def's state again
    refine thnF (T.done Y rfl rfl rfl hc i [] s5 _ H5 (fun _ _ => False) I5 (fpY I5 n5) st5 stop) fun r s6 q => ?_
    obtain ⟨rfl, I6⟩ := q
    have back : Inv X pins σ H5 s6 := by
      refine I3.call' (ch := fp) I6.os I6.base I6.hok I6.bare fun b hb => ?_
      obtain ⟨_, h1, _, h2, h3, h4⟩ := f3 b hb
      exact ⟨h2, h1, h3, h4⟩
    obtain ⟨m, hn, _⟩ := I6.loc
    exact hR s6 H5 back done I6.free ⟨m, hn⟩
  · refine thnF (T.item Y rfl rfl rfl hc i [] s5 _ H5 (fun _ _ => False) I5 (fpY I5 n5) st5 go) fun r s6 q => ?_
    obtain ⟨u, rfl, h6⟩ := q
    refine thnF h6 fun _ s7 q => ?_
    obtain ⟨x, H7, I7, r7, y7, st7, n7⟩ := q
    have I7p := I7.pinned (fpY I7 n7) (T.obj _ _ st7)
    refine thnF (pg.run _ s7 _ H7 x u _ I7p r7 (step x H7 y7)) fun _ s8 q => ?_
    obtain ⟨σ8, H8, I8, w8, q8⟩ := q
    refine thnF (pt.run _ s8 σ8 H8 _ I8 q8) fun b s9 q => ?_
    obtain ⟨H9, I9, q9⟩ := q
    have again : ∀ {s' : Shared} {H' : Hp}, Inv Y ([] ++ pinsAt fp s7.heap) σ8 H' s' → Nx H' →
        ∃ m, m < n ∧ ∃ i H', Inv Y [] (wipe σ vs) H' s' ∧ tn i s'.heap ∧ (∀ b ∈ fp, H' b = none) ∧ W i m H' := by
      intro s' H' I' nx
      obtain ⟨m', lt, w'⟩ := hNx H' nx
      have pin : ∀ b ∈ fp, ∀ o, s7.heap.get? b = some o → s'.heap.get? b = some o ∧ H' b = none := by
        intro b hb o e
        have z := I'.pin (b, o) (List.mem_append_right _ (List.mem_append_right _ (mem_pinsAt hb e)))
        exact ⟨z.1, z.2.1⟩
      refine ⟨m', lt, i + 1, H', (I'.unpinned (pins := [])).weak (by rw [← w8, wipe_length]) (fun j v e => ?_), T.keep _ _ _ st7 fun b hb o e => (pin b hb o e).1, fun b hb => ?_, w'⟩
      · rw [← w8] at e
        exact (wipe_some e).1
      · obtain ⟨o, e, _⟩ := T.obj _ _ st7 b hb
        exact (pin b hb o e).2
    cases b with
    | false =>
      rw [if_neg Bool.false_ne_true] at q9 ⊢
      exact again I9 q9
    | true =>
      rw [if_pos rfl] at q9 ⊢
      refine thnF (pe.run _ s9 σ8 H9 _ I9 q9) fun z s10 q => ?_
      obtain ⟨yv, H10, I10, r10, acc, hD, hz, nx⟩ := q
      exact app_ok (X := Y) I10 hD hz r10 fun s11 I11 => again I11 nx
/-- what the block may know of the def's state at its start -/
structure BlkAt (X : Cx) (pins : List (Addr × Obj)) (σ : L2.St) (s : Shared) (H : Hp) (fp : List Addr) : Prop where
  inv : Inv X pins σ H s
  fp : ∀ b ∈ fp, FpOk X pins H b
theorem pe_lcI {elt tg iter : Expr} {ifs : List Expr} {scope : Scope} {own : List (Str × Nat)} {pos : Pos} {wi : TI} {g : TG} {te : L2.St → TE} {tts : L2.St → TT}
    (hc : X.calm = true) (hN : X.N.Nodup) (hi : PI X tg iter wi) (ok : BlkOk X.N X.env.scope scope own)
    (hg : ∀ (s : Shared) (H : Hp) (C : Addr) (cl : List (Str × Addr)) (fp : List Addr), PG (X.blk s H scope (compEnvC scope cl C X.env) fp) tg g)
    (ht : ∀ (pins : List (Addr × Obj)) (σ : L2.St) (s : Shared) (H : Hp) (C : Addr) (cl : List (Str × Addr)) (fp : List Addr), BlkAt X pins σ s H fp →
      PTs (X.blk s H scope (compEnvC scope cl C X.env) fp) ifs (tts σ))
    (he : ∀ (pins : List (Addr × Obj)) (σ : L2.St) (s : Shared) (H : Hp) (C : Addr) (cl : List (Str × Addr)) (fp : List Addr), BlkAt X pins σ s H fp →
      PE (X.blk s H scope (compEnvC scope cl C X.env) fp) elt (te σ))
    (hs : ∀ x, foldedSetIterable iter X.env x = pure x := by intro _; rfl) :
    PE X (.ListComp elt [⟨tg, iter, ifs, 0⟩] scope pos) (fun σ H Q => tLc wi g (tts σ) (te σ) (own.map (·.2)) σ H Q) := by
  refine ⟨fun pins s σ H Q I h => ?_⟩
  rw [eval_ListComp]
  have hfree : ∀ y ∈ scope.names, y.2 = .free → ∃ c, X.env.cells.lookup y.1 = some c := by
    intro y hy e
    rcases ok.free y hy e with k | k
    · exact I.ok.has _ (.inl k)
    · exact I.ok.has _ (.inr k)
  refine wpAny_comprehension_free (use := none) rfl hs (closure_ok hfree) ok.kind (fun y hy e => by rw [ok.uniq y hy, e]) ?_
  refine thn (hi.run pins s σ H _ I h) fun xv s1 hx => thn hx fun itv s2 h2 => ?_
  obtain ⟨it, fp, tn, J, H2, rfl, I2, T, st2, f2, q⟩ := h2
  refine wpAny_newObj_type (newEnv_comp ?_) (by show 0 ≤ sizeLine; decide)
  generalize hD : s2.heap.objs.size = D
  obtain ⟨W, hW, turn⟩ := q D (I2.hok.fresh (Nat.le_of_eq hD))
  have lt2 : ∀ b ∈ fp, b < s2.heap.objs.size := by
    intro b hb
    obtain ⟨o, e, _⟩ := T.obj _ _ st2 b hb
    exact Heap.lt_size e
  -- the list
  have I3 : Inv X pins σ (upd H2 D (.lst [])) { s2 with heap := s2.heap.push { cls := .type "list", data := .seq ([] : List Value).toArray } } := by
    refine I2.laid (t' := s2.toks) (fun b o e => Heap.get?_push_of_some _ e) (Nat.le_of_eq hD) ⟨Nat.zero_le _, [], 0, .nil, ?_⟩
    rw [← hD]
    exact Heap.get?_push_size _ rfl
  have st3 : tn 0 (s2.heap.push { cls := .type "list", data := .seq ([] : List Value).toArray }) := T.keep _ _ _ st2 fun b _ o e => Heap.get?_push_of_some _ e
  have f3 : ∀ b ∈ fp, FpOk X pins (upd H2 D (.lst [])) b := by
    intro b hb
    refine ⟨?_, (f2 b hb).2⟩
    rw [upd_ne (by rw [← hD]; exact Nat.ne_of_lt (lt2 b hb))]
    exact (f2 b hb).1
  have l3 : ∀ b ∈ fp, b < (s2.heap.push { cls := .type "list", data := .seq ([] : List Value).toArray }).objs.size := by
    intro b hb
    rw [Heap.size_push]
    exact Nat.lt_succ_of_lt (lt2 b hb)
  generalize hs3 : ({ s2 with heap := s2.heap.push { cls := .type "list", data := .seq ([] : List Value).toArray } } : Shared) = s3 at I3
  have h3 : s3.heap = s2.heap.push { cls := .type "list", data := .seq ([] : List Value).toArray } := by rw [← hs3]
  rw [← h3] at st3 l3
  generalize upd H2 D (.lst []) = H3 at I3 f3 hW
  have I4 := block_start I3 ok hN fun b hb => ⟨f3 b hb, l3 b hb⟩
  have at_ : BlkAt X pins σ s3 H3 fp := ⟨I3, f3⟩
  have pg := hg s3 H3 s3.heap.objs.size (cellsFrom (s3.heap.objs.size + 1) scope.names (cloFrom X.env.cells scope.names [])) fp
  have pt := ht pins σ s3 H3 s3.heap.objs.size (cellsFrom (s3.heap.objs.size + 1) scope.names (cloFrom X.env.cells scope.names [])) fp at_
  have pe := he pins σ s3 H3 s3.heap.objs.size (cellsFrom (s3.heap.objs.size + 1) scope.names (cloFrom X.env.cells scope.names [])) fp at_
  have st4 : tn 0 (pushCells (s3.heap.push { cls := .type "dict", data := .dict #[] }) scope.names) :=
    T.keep _ _ _ st3 fun b _ o e => pushCells_keeps _ _ _ _ (Heap.get?_push_of_some _ e)
  show codeAny _ _ (.compStart (.ListComp elt [⟨tg, iter, ifs, 0⟩] scope pos) 0 (.ref it) (.ref D)
    (compEnvC scope (cellsFrom (s3.heap.objs.size + 1) scope.names (cloFrom X.env.cells scope.names [])) s3.heap.objs.size X.env))
    (compPost (model X.prog X.w) X.A X.xe none (EP X pins σ Q) (.ref D) s3.heap.objs.size)
    { s3 with heap := pushCells (s3.heap.push { cls := .type "dict", data := .dict #[] }) scope.names }
  have loop := blk_loop (iter := iter) (pos := pos) (R := compPost (model X.prog X.w) X.A X.xe none (EP X pins σ Q) (.ref D) s3.heap.objs.size)
    hc I3 f3 T I4 st4 pg pt pe hW turn (fun s' H' I' q nC hn => by
      obtain ⟨m, hn⟩ := hn
      refine ⟨m, hn, fun h'' sb => ?_⟩
      have f := I3.fpOk (b := s3.heap.objs.size) (H' := H') (Nat.le_refl _) nC
      obtain ⟨f0, f1, f2, f3, f4, f5⟩ := f
      exact ⟨.ref D, H', I'.turned (t' := s'.toks) (fun b o hb e => (sb.2 b hb).trans e) f0 f1 f3 f4 f5, rfl, q⟩)
  exact codeAny_compStart_list loop (T.self X.A 0 _ _ _ st4 loop)
end
end Lx

namespace Lx
open PySem PySem.Spec PyProof.Rows L2 LamX NdefX
/-! ### the drawing state -/
/-- the script that the state at S names -/
def Scr (H : Hp) (S a : Addr) : Prop := ∃ xs, H S = some (.lst (.ref a :: xs))
/-- all but S stays, and the state goes on naming its script -/
structure But (S : Addr) (H H' : Hp) : Prop where
  keep : ∀ b o, b ≠ S → H b = some o → H' b = some o
  scr : ∀ a, Scr H S a → Scr H' S a
instance {S : Addr} {H H' : Hp} : CoeFun (But S H H') (fun _ => ∀ b o, b ≠ S → H b = some o → H' b = some o) := ⟨But.keep⟩
theorem But.refl {S : Addr} {H : Hp} : But S H H := ⟨fun _ _ _ e => e, fun _ h => h⟩
theorem But.trans {S : Addr} {H H1 H2 : Hp} (a : But S H H1) (b : But S H1 H2) : But S H H2 := ⟨fun c o n e => b.keep c o n (a.keep c o n e), fun c h => b.scr c (a.scr c h)⟩
theorem But.self {S a : Addr} {H : Hp} {xs ys : List V} (_ : H S = some (.lst (.ref a :: xs))) : But S H (upd H S (.lst (.ref a :: ys))) :=
  ⟨fun b u n e => by rw [upd_ne n]; exact e, fun c h => by
    obtain ⟨zs, h⟩ := h
    rename_i e
    rw [e] at h
    have h2 := (List.cons.inj (HO.lst.inj (Option.some.inj h))).1
    have h3 := V.ref.inj h2
    subst h3
    exact ⟨ys, upd_same⟩⟩
theorem But.new {S p : Addr} {H : Hp} {o : HO} (h : H p = none) : But S H (upd H p o) :=
  ⟨fun b u n e => by rw [upd_ne (ne_of_none e h)]; exact e, fun c k => by
    obtain ⟨zs, k⟩ := k
    exact ⟨zs, by rw [upd_ne (ne_of_none k h)]; exact k⟩⟩
theorem But.at_ {S b : Addr} {H H' : Hp} {o : HO} (x : But S H H') (e : H b = some o) (n : b ≠ S) : H' b = some o := x.keep b o n e
/-- the state at S: the script, how many, mixed, what is left -/
def StAt (K : PySem.W.Frag) (S : Addr) (H : Hp) : Prop := ∃ (a : Addr) (ns : List Int) (i m r : Int),
  H S = some (.lst [.ref a, .int i, .int m, .int r]) ∧ SqL K H a (ns.map V.int) ∧ 0 ≤ i ∧ 0 ≤ m ∧ m < 2147483647 ∧ 0 ≤ r
theorem st_ne {K : PySem.W.Frag} {H : Hp} {S a : Addr} {i m r : Int} {ns : List Int} (e : H S = some (.lst [.ref a, .int i, .int m, .int r]))
    (h : Rd H a (.lst (ns.map V.int))) : a ≠ S := by
  intro z
  rw [z] at h
  rcases h with h | ⟨o, h⟩
  · rw [e] at h
    have h' := HO.lst.inj (Option.some.inj h)
    cases ns with
    | nil => cases h'
    | cons n r =>
      have h2 := (List.cons.inj h').1
      cases h2
  · rw [e] at h; cases h
theorem sqL_but {K : PySem.W.Frag} {H H' : Hp} {S a : Addr} {xs : List V} (b : But S H H') (h : SqL K H a xs) (n : Rd H a (.lst xs) → a ≠ S) : SqL K H' a xs := by
  rcases h with h | h
  · have hn := n h
    rcases h with h | ⟨o, h⟩
    · exact .inl (.inl (b _ _ hn h))
    · exact .inl (.inr ⟨o, b _ _ hn h⟩)
  · exact .inr h
/-- the state is written anew -/
theorem StAt.put {K : PySem.W.Frag} {S a : Addr} {H : Hp} {ns : List Int} {i m r i' m' r' : Int} (e : H S = some (.lst [.ref a, .int i, .int m, .int r])) (h : SqL K H a (ns.map V.int))
    (h1 : 0 ≤ i') (h2 : 0 ≤ m') (h3 : m' < 2147483647) (h4 : 0 ≤ r') : StAt K S (upd H S (.lst [.ref a, .int i', .int m', .int r'])) :=
  ⟨a, ns, i', m', r', upd_same, sqL_but (But.self (ys := [.int i', .int m', .int r']) e) h fun z => st_ne (K := K) e z, h1, h2, h3, h4⟩
/-- .. stays when other things are laid -/
theorem StAt.new {K : PySem.W.Frag} {S p : Addr} {H : Hp} {o : HO} (s : StAt K S H) (h : H p = none) : StAt K S (upd H p o) := by
  obtain ⟨a, ns, i, m, r, e, q, rest⟩ := s
  refine ⟨a, ns, i, m, r, (upd_ne (ne_of_none e h)).trans e, ?_, rest⟩
  refine sqL_but (S := S) (But.new h) q fun z => st_ne (K := K) e z
theorem StAt.same {K : PySem.W.Frag} {S : Addr} {H H' : Hp} (s : StAt K S H) (h : Same H H') : StAt K S H' := by
  obtain ⟨a, ns, i, m, r, e, q, rest⟩ := s
  exact ⟨a, ns, i, m, r, h _ _ e, h.seq q, rest⟩
theorem StAt.ext {K : PySem.W.Frag} {S : Addr} {H H' : Hp} (s : StAt K S H) (h : ExtN H H') : StAt K S H' := by
  obtain ⟨a, ns, i, m, r, e, q, rest⟩ := s
  refine ⟨a, ns, i, m, r, h _ _ e (fun _ z => by cases z), ?_, rest⟩
  rcases q with (q | ⟨o, q⟩) | q
  · exact .inl (.inl (h _ _ q (fun _ z => by cases z)))
  · exact .inl (.inr ⟨o, h _ _ q (fun _ z => by cases z)⟩)
  · exact .inr q
theorem But.of {S : Addr} {H H' : Hp} (h : Same H H') : But S H H' := ⟨fun b o _ e => h b o e, fun c k => by
  obtain ⟨zs, k⟩ := k
  exact ⟨zs, h _ _ k⟩⟩
theorem But.lay {S D : Addr} {G H : Hp} {o : HO} (b : But S G H) (n : G D = none) (nS : D ≠ S) : But S G (upd H D o) :=
  ⟨fun c u ne e => by rw [upd_ne (ne_of_none e n)]; exact b.keep c u ne e, fun c k => by
    obtain ⟨zs, k⟩ := b.scr c k
    exact ⟨zs, (upd_ne (Ne.symm nS)).trans k⟩⟩
/-- another list, new since G, is written -/
theorem StAt.lay {K : PySem.W.Frag} {S D : Addr} {G H : Hp} {o : HO} (g : StAt K S G) (n : G D = none) (b : But S G H) (s : StAt K S H) (nS : D ≠ S) : StAt K S (upd H D o) := by
  obtain ⟨a, ns, i, m, r, e, q, _⟩ := g
  obtain ⟨a', ns', i', m', r', e', q', rest⟩ := s
  obtain ⟨zs, k⟩ := b.scr a ⟨_, e⟩
  rw [e'] at k
  have ea : a' = a := V.ref.inj (List.cons.inj (HO.lst.inj (Option.some.inj k))).1
  subst ea
  have eS : upd H D o S = some (.lst [.ref a', .int i', .int m', .int r']) := (upd_ne (Ne.symm nS)).trans e'
  have go : a' ≠ D → StAt K S (upd H D o) := fun nD => by
    refine ⟨a', ns', i', m', r', eS, ?_, rest⟩
    rcases q' with (q' | ⟨o', q'⟩) | q'
    · exact .inl (.inl ((upd_ne nD).trans q'))
    · exact .inl (.inr ⟨o', (upd_ne nD).trans q'⟩)
    · exact .inr q'
  rcases q with (q | ⟨o, q⟩) | q
  · exact go (ne_of_none q n)
  · exact go (ne_of_none q n)
  · exact ⟨a', ns, i', m', r', eS, .inr q, rest⟩
theorem StAt.is {K : PySem.W.Frag} {S : Addr} {H : Hp} (s : StAt K S H) : ∃ xs, H S = some (.lst xs) := by
  obtain ⟨a, ns, i, m, r, e, _⟩ := s
  exact ⟨_, e⟩
theorem StAt.ne {K : PySem.W.Frag} {S p : Addr} {H : Hp} {o : HO} (s : StAt K S H) (e : H p = some o) (h : ∀ xs, o ≠ .lst xs) : p ≠ S := by
  obtain ⟨xs, z⟩ := s.is
  intro q; rw [q, z] at e; exact h xs (Option.some.inj e).symm
theorem StAt.nn {K : PySem.W.Frag} {S p : Addr} {H : Hp} (s : StAt K S H) (e : H p = none) : p ≠ S := by
  obtain ⟨xs, z⟩ := s.is
  intro q; rw [q, z] at e; cases e
/-- a draw -/
def spDrawn (K : PySem.W.Frag) : Sp := fun vs H Q _ => ∃ (S : Addr) (many : Int), vs = [.ref S, .int many] ∧ StAt K S H ∧ 0 < many ∧ many < 10000000000000000000000000000000000000000 ∧
  ∀ (v : Int) (H' : Hp), 0 ≤ v → v < many → But S H H' → StAt K S H' → Q (.int v) H'
def spStart (K : PySem.W.Frag) : Sp := fun vs H Q _ => ∃ (a : Addr) (ns : List Int), vs = [.ref a] ∧ SqL K H a (ns.map V.int) ∧
  ∀ (S : Addr) (H' : Hp), Same H H' → H S = none → StAt K S H' → Q (.ref S) H'
theorem wide40 {j : Int} (h : 0 < j) (h2 : j < 10000000000000000000000000000000000000000) : CDivW 0 j :=
  wide_div (b := 140) h (by have : (10000000000000000000000000000000000000000 : Int) < 2 ^ 140 := by decide
                            omega) (by decide) (by decide)
end Lx

namespace Lx
open PySem PySem.Spec PyProof.Rows L2 LamX NdefX
/-! ### a def of the module that is known by its promise -/
structure Kn (P : Program) (w : World) (K : PySem.W.Frag) (mg : Str → Option Value) (base : Heap) (C : CXT) (k : Nat) (x : Str) (ps : List Str) (sp : Sp) : Prop where
  ex : ∃ (f : Addr) (fd : FuncData), FnOk P w K mg base C k f fd ps sp ∧ mg x = some (.ref f) ∧ PySem.W.keepIn K (.ref f) = true ∧ Binds K fd ps []
def tKn (sp : Sp) (E : XK) (t : TA) : TE := fun σ H Q => t σ H fun vs H1 => sp (vs ++ []) H1 Q E
section
variable {X : Cx} {C : CXT} {k j : Nat} {x : Str} {ps : List Str} {sp : Sp} {E : XK} {e : Expr} {es : List Expr} {t : TA} {p pos : Pos}
theorem pe_knX (D : Kn X.prog X.w X.K X.mg X.base C j x ps sp) (hr : Room k X.A) (hj : j ≤ k) (hx : Passes C X E) (ha : PA X (e :: es) t) (hg : Gl X x)
    (hdb : (x == ("__debug__" : Str)) = false := by decide) (he : starEach (e :: es) X.env = (false, eval e X.env) :: starEach es X.env := by rfl)
    (hpl : (backTo pos (starEach es X.env)).any (·.1) = false := by rfl) : PE X (.Call (.Name x p) (e :: es) [] pos) (tKn sp E t) := by
  obtain ⟨f, fd, F, hm, hk, hb⟩ := D.ex
  exact pe_call F (hr.mono hj) hg hm hk hb .nil hx ha hdb he hpl
/-- nothing is raised -/
theorem pe_kn (D : Kn X.prog X.w X.K X.mg X.base CX0 j x ps sp) (hr : Room k X.A) (hj : j ≤ k) (ha : PA X (e :: es) t) (hg : Gl X x)
    (hdb : (x == ("__debug__" : Str)) = false := by decide) (he : starEach (e :: es) X.env = (false, eval e X.env) :: starEach es X.env := by rfl)
    (hpl : (backTo pos (starEach es X.env)).any (·.1) = false := by rfl) : PE X (.Call (.Name x p) (e :: es) [] pos) (tKn sp L2.E0 t) :=
  pe_knX D hr hj pass0 ha hg hdb he hpl
/-- it may raise, not here -/
theorem pe_knL (D : Kn X.prog X.w X.K X.mg X.base (L2.CX X.prog X.w) j x ps sp) (hr : Room k X.A) (hj : j ≤ k) (ha : PA X (e :: es) t) (hg : Gl X x)
    (hdb : (x == ("__debug__" : Str)) = false := by decide) (he : starEach (e :: es) X.env = (false, eval e X.env) :: starEach es X.env := by rfl)
    (hpl : (backTo pos (starEach es X.env)).any (·.1) = false := by rfl) : PE X (.Call (.Name x p) (e :: es) [] pos) (tKn sp L2.E0 t) :=
  pe_knX D hr hj passL ha hg hdb he hpl
end
theorem Kn.of {P : Program} {w : World} {K : PySem.W.Frag} {mg : Str → Option Value} {base : Heap} {C : CXT} {k : Nat} {x q : Str} {st : Stmt} {f : Addr} {fd : FuncData} {ps : List Str} {sp : Sp}
    (F : Fun K x q st f fd) (o : FnOk P w K mg base C k f fd ps sp) (g : mg x = some (.ref f)) (b : Binds K fd ps []) : Kn P w K mg base C k x ps sp := ⟨f, fd, o, g, F.kp, b⟩
/-! ### an item at a drawn place -/
theorem pick {α : Type} {xs : List α} {v : Int} (h0 : 0 ≤ v) (h1 : v < xs.length) : ∃ x, atI xs v = some x ∧ x ∈ xs := by
  obtain ⟨j, rfl⟩ : ∃ j : Nat, v = j := ⟨v.toNat, by omega⟩
  have lt : j < xs.length := by omega
  exact ⟨xs[j], atI_nat (List.getElem?_eq_getElem lt), List.getElem_mem lt⟩
theorem pick2 {α : Type} {a b : α} {v : Int} (h0 : 0 ≤ v) (h1 : v < 2) : ∃ x, atI [a, b] v = some x ∧ (x = a ∨ x = b) := by
  obtain ⟨x, e, m⟩ := pick (xs := [a, b]) h0 (by simpa using h1)
  exact ⟨x, e, by simpa using m⟩
theorem pick3 {α : Type} {a b c : α} {v : Int} (h0 : 0 ≤ v) (h1 : v < 3) : ∃ x, atI [a, b, c] v = some x ∧ (x = a ∨ x = b ∨ x = c) := by
  obtain ⟨x, e, m⟩ := pick (xs := [a, b, c]) h0 (by simpa using h1)
  exact ⟨x, e, by simpa using m⟩
theorem pick4 {α : Type} {a b c d : α} {v : Int} (h0 : 0 ≤ v) (h1 : v < 4) : ∃ x, atI [a, b, c, d] v = some x ∧ (x = a ∨ x = b ∨ x = c ∨ x = d) := by
  obtain ⟨x, e, m⟩ := pick (xs := [a, b, c, d]) h0 (by simpa using h1)
  exact ⟨x, e, by simpa using m⟩
/-! ### the texts of refusals -/
theorem log_of {i : Int} (h : i.natAbs < 2 ^ 1900) : i.natAbs.log2 < 1920 := by
  have := PySem.Flt.log2_lt_of (n := i.natAbs) (k := 1900) (by decide) h
  omega
/-- numbers of at most forty figures -/
def Sm (i : Int) : Prop := -10000000000000000000000000000000000000000 < i ∧ i < 10000000000000000000000000000000000000000
theorem Sm.log {i : Int} (h : Sm i) : i.natAbs.log2 < 1920 := by
  refine log_of (Nat.lt_of_lt_of_le (m := 10000000000000000000000000000000000000000) ?_ (by decide))
  have h1 := h.1
  have h2 := h.2
  omega
theorem str_fit {a b : Str} {n m : Nat} (ha : a.length ≤ n) (hb : b.length ≤ m) : (a ++ b).length ≤ n + m := by
  rw [Str.length_append]; omega
theorem fit {a : Str} {n : Nat} (h : a.length ≤ n) (h2 : n ≤ 16777216) : a.length ≤ sizeLine := by rw [sizeLine_eq]; omega
/-- a text, a number -/
theorem tJs2 {a : Str} {i : Nat} {σ : L2.St} {H : Hp} {n : Int} {Q : Str → Hp → Prop} (hi : σ[i]? = some (some (.int n))) (ha : (Str.empty ++ a).length ≤ 1000) (hn : Sm n) (q : ∀ out, Q out H) :
    tJs [tC (.str a), tFmt (tVar i)] Str.empty σ H Q := by
  refine ⟨a, rfl, fit ha (by decide), .int n, hi, .inr ⟨n, rfl, hn.log, _, rfl, fit (str_fit ha (int_text_len_1921 hn.log)) (by decide), q _⟩⟩
/-- a text, a number, a text, a number -/
theorem tJs4 {a b : Str} {i j : Nat} {σ : L2.St} {H : Hp} {n m : Int} {Q : Str → Hp → Prop} (hi : σ[i]? = some (some (.int n))) (hj : σ[j]? = some (some (.int m))) (ha : (Str.empty ++ a).length ≤ 1000) (hb : b.length ≤ 1000)
    (hn : Sm n) (hm : Sm m) (q : ∀ out, Q out H) : tJs [tC (.str a), tFmt (tVar i), tC (.str b), tFmt (tVar j)] Str.empty σ H Q := by
  have f1 := str_fit ha (int_text_len_1921 hn.log)
  have f2 := str_fit f1 hb
  have f3 := str_fit f2 (int_text_len_1921 hm.log)
  exact ⟨a, rfl, fit ha (by decide), .int n, hi, .inr ⟨n, rfl, hn.log, _, rfl, fit f1 (by decide), b, rfl, fit f2 (by decide), .int m, hj, .inr ⟨m, rfl, hm.log, _, rfl, fit f3 (by decide), q _⟩⟩⟩
end Lx

namespace Lx
open PySem PySem.Spec PyProof.Rows L2 LamX NdefX
/-! ### a class of refusals, the name x, at C -/
structure Rf (K : PySem.W.Frag) (mg : Str → Option Value) (x : Str) (C : Addr) : Prop where
  g : mg x = some (.ref C)
  e : PySem.W.excIn K C [.type "ValueError", .type "Exception", .type "BaseException", .type "object"] "ValueError.__new__" = true
  k : PySem.W.keepIn K (.ref C) = true
  b : PySem.W.subIn K (.ref C) (.type "BaseException") = some true
  t : PySem.W.typeIn K (.ref C) = some (.type "type")
/-- raise x(f"..") -/
theorem ps_rf {X : Cx} {W : WX} {x : Str} {C : Addr} {e : Expr} {ta : TE} {p p2 p3 : Pos} (hc : X.calm = true) (T : Rf X.K X.mg x C) (tk : Takes X W) (hg : Gl X x) (he : PE X e ta)
    (hs : starEach [e] X.env = (false, eval e X.env) :: starEach [] X.env := by rfl) (hdb : (x == ("__debug__" : Str)) = false := by decide) :
    PS X (.Raise (some (.Call (.Name x p) [e] [] p2)) none p3) (fun _ σ H => ta σ H fun _ H1 => W (.ref C) none σ H1) :=
  ps_raise hc tk (SkE.pmk_own1 PySem.F.excBase_ValueError T.e T.g T.k (raises_own T.b T.t) hg he hs hdb)
/-! ### wheels -/
def Wh (n : Int) : Prop := 2 ≤ n ∧ n ≤ 1000000000000
instance (n : Int) : Decidable (Wh n) := inferInstanceAs (Decidable (2 ≤ n ∧ n ≤ 1000000000000))
def Sn (n s : Int) : Prop := 0 ≤ s ∧ s < n
instance (n s : Int) : Decidable (Sn n s) := inferInstanceAs (Decidable (0 ≤ s ∧ s < n))
def spIsWheel : Sp := fun vs H Q _ => ∃ n : Int, vs = [.int n] ∧ Q (.bl (decide (Wh n))) H
def spCheckWheel (CW : Addr) : Sp := fun vs H Q E => ∃ n : Int, vs = [.int n] ∧ Sm n ∧ (Wh n → Q .non H) ∧ (¬ Wh n → E (.ref CW) none H)
def spCheckSeen (CS : Addr) : Sp := fun vs H Q E => ∃ n s : Int, vs = [.int n, .int s] ∧ Sm n ∧ Sm s ∧ (Sn n s → Q .non H) ∧ (¬ Sn n s → E (.ref CS) none H)
/-- a wheel and two shown numbers -/
def spTwo (CW CS : Addr) (r : Int → Int → Int → V) : Sp := fun vs H Q E => ∃ n a b : Int, vs = [.int n, .int a, .int b] ∧ Sm n ∧ Sm a ∧ Sm b ∧
  (¬ Wh n → E (.ref CW) none H) ∧ (Wh n → ¬ Sn n a → E (.ref CS) none H) ∧ (Wh n → Sn n a → ¬ Sn n b → E (.ref CS) none H) ∧ (Wh n → Sn n a → Sn n b → Q (r n a b) H)
def sinceV (n a b : Int) : V := .int ((b - a) % n)
def ordW (n d : Int) : Str := if 2 * d = 0 then "same" else if 2 * d = n then "opposite" else if 2 * d < n then "ahead" else "behind"
def orderV (n a b : Int) : V := .str (ordW n ((b - a) % n))
end Lx

namespace Lx
open PySem PySem.Spec PyProof.Rows L2 LamX NdefX
/-! ### what the law's own helpers promise -/
/-- a number that is drawn, of which p is told -/
def spDraws (K : PySem.W.Frag) (p : Int → Prop) : Sp := fun vs H Q _ => ∃ S : Addr, vs = [.ref S] ∧ StAt K S H ∧
  ∀ (v : Int) (H' : Hp), p v → But S H H' → StAt K S H' → Q (.int v) H'
def Tm (v : Int) : Prop := -1000000000000000000000000000000 ≤ v ∧ v ≤ 1000000000000000000000000000000
abbrev spWheel (K : PySem.W.Frag) : Sp := spDraws K Wh
abbrev spTime (K : PySem.W.Frag) : Sp := spDraws K Tm
/-- numbers of at most thirty figures, and what is near them -/
def Sf (i : Int) : Prop := -10000000000000000000000000000000 < i ∧ i < 10000000000000000000000000000000
theorem Sf.sm {i : Int} (h : Sf i) : Sm i := ⟨by have := h.1; omega, by have := h.2; omega⟩
/-- a number below least or beyond most -/
def spFar (K : PySem.W.Frag) : Sp := fun vs H Q _ => ∃ (S : Addr) (least most : Int), vs = [.ref S, .int least, .int most] ∧ StAt K S H ∧
  -100000000000000 ≤ least ∧ least ≤ 100000000000000 ∧ -100000000000000 ≤ most ∧ most ≤ 100000000000000 ∧
  ∀ (v : Int) (H' : Hp), (v < least ∨ most < v) → Sf v → But S H H' → StAt K S H' → Q (.int v) H'
end Lx

namespace Lx
open PySem PySem.Spec PyProof.Rows L2 LamX NdefX
/-! ### alike, and of the same kinds -/
def mk : Bool → List V → HO
  | true => .lst
  | false => .tup
def kn : Bool → String
  | true => "list"
  | false => "tuple"
theorem mk_ty {K : PySem.W.Frag} {H : Hp} {p : Addr} {b : Bool} {xs : List V} (e : H p = some (mk b xs)) : TyX K H (.ref p) (.type (kn b)) := by
  cases b with
  | true => exact .base (.lst e)
  | false => exact .base (.tup e)
theorem mk_sq {K : PySem.W.Frag} {H : Hp} {p : Addr} {b : Bool} {xs : List V} (e : H p = some (mk b xs)) : SqL K H p xs ∨ SqT K H p xs := by
  cases b with
  | true => exact .inl (SqL.of e)
  | false => exact .inr (SqT.of e)
theorem mk_any {K : PySem.W.Frag} {b : Bool} : PySem.W.kitAny K (.type (kn b)) [.type "tuple", .type "list"] = some true := by
  cases b with
  | true => exact kitAny_cons (b := false) (kit_ty (by decide +kernel)) (fun _ => kitAny_cons (b := true) (kit_ty (by decide +kernel)) (fun z => nomatch z) fun _ => rfl) (fun z => nomatch z)
  | false => exact kitAny_cons (b := true) (kit_ty (by decide +kernel)) (fun z => nomatch z) fun _ => rfl
theorem mk_one {K : PySem.W.Frag} {b : Bool} : PySem.W.kitOne K (.type (kn b)) (.type "list") = some b := by
  cases b with
  | true => exact kit_ty (by decide +kernel)
  | false => exact kit_ty (by decide +kernel)
theorem any_no {K : PySem.W.Frag} {t : String} (h1 : kitB t "tuple" = some false) (h2 : kitB t "list" = some false) : PySem.W.kitAny K (.type t) [.type "tuple", .type "list"] = some false :=
  kitAny_cons (b := false) (kit_ty h1) (fun _ => kitAny_cons (b := false) (kit_ty h2) (fun _ => kitAny_nil) (fun z => nomatch z)) (fun z => nomatch z)
theorem mk_ix {K : PySem.W.Frag} {H : Hp} {p : Addr} {b : Bool} {xs : List V} {i : Int} {v : V} {Q : VK} (e : H p = some (mk b xs)) (a : atI xs i = some v) (q : Q v H) : rIx K (.ref p) (.int i) H Q := by
  cases b with
  | true => exact .inl ⟨p, xs, i, v, rfl, rfl, SqL.of e, a, q⟩
  | false => exact .inr (.inl ⟨p, xs, i, v, rfl, rfl, SqT.of e, a, q⟩)
/-- found, due: the same; sp: what is promised of their items -/
def spSame (sp : Sp) : Sp := fun vs H Q _ => ∃ x y : V, vs = [x, y] ∧ (∀ H', Same H H' → Q (.bl true) H') ∧
  ((x = y ∧ flatV x = true) ∨ ∃ (b : Bool) (p q : Addr) (xs ys : List V), x = .ref p ∧ y = .ref q ∧ H p = some (mk b xs) ∧ H q = some (mk b ys) ∧ xs.length = ys.length ∧ ys.length ≤ 1000 ∧
    ∀ (i : Nat) (u v : V), xs[i]? = some u → ys[i]? = some v → ∀ (H' : Hp) (Q' : VK), Same H H' → (∀ H'', Same H' H'' → Q' (.bl true) H'') → sp [u, v] H' Q' L2.E0)
theorem spSame_flat {sp : Sp} {x : V} {H : Hp} {Q : VK} {E : XK} (h : flatV x = true) (q : ∀ H', Same H H' → Q (.bl true) H') : spSame sp [x, x] H Q E := ⟨x, x, rfl, q, .inl ⟨rfl, h⟩⟩
/-- no promise at all -/
abbrev spNo : Sp := fun _ _ _ _ => False
theorem no_ok {P : Program} {w : World} {K : PySem.W.Frag} {mg : Str → Option Value} {base : Heap} {f : Addr} {fd : FuncData} {ps : List Str} : FnOk P w K mg base CX0 0 f fd ps spNo :=
  ⟨fun _ _ _ _ z => z.elim, fun _ _ _ _ _ _ _ _ _ _ _ _ _ z => z.elim⟩
/-- two flat things, or two lists (tuples) of flat things -/
abbrev spSame1 : Sp := spSame (spSame spNo)
theorem spSame1_seq {H : Hp} {p q : Addr} {b : Bool} {xs : List V} {Q : VK} {E : XK} (hp : H p = some (mk b xs)) (hq : H q = some (mk b xs)) (hl : xs.length ≤ 1000) (hf : ∀ x ∈ xs, flatV x = true)
    (h : ∀ H', Same H H' → Q (.bl true) H') : spSame1 [.ref p, .ref q] H Q E := by
  refine ⟨_, _, rfl, h, .inr ⟨b, p, q, xs, xs, rfl, rfl, hp, hq, rfl, hl, fun i u v e1 e2 H' Q' _ k => ?_⟩⟩
  rw [e1] at e2
  cases e2
  exact spSame_flat (hf u (List.mem_of_getElem? e1)) k
/-- the last part of spSame1 for two lists (tuples) of flat things -/
theorem same1_or {H : Hp} {p q : Addr} {b : Bool} {xs : List V} (hp : H p = some (mk b xs)) (hq : H q = some (mk b xs)) (hl : xs.length ≤ 1000) (hf : xs.all flatV = true) :
    ((V.ref p = V.ref q ∧ flatV (V.ref p) = true) ∨ ∃ (b : Bool) (p' q' : Addr) (xs ys : List V), V.ref p = .ref p' ∧ V.ref q = .ref q' ∧ H p' = some (mk b xs) ∧ H q' = some (mk b ys) ∧ xs.length = ys.length ∧ ys.length ≤ 1000 ∧
      ∀ (i : Nat) (u v : V), xs[i]? = some u → ys[i]? = some v → ∀ (H' : Hp) (Q' : VK), Same H H' → (∀ H'', Same H' H'' → Q' (.bl true) H'') → spSame spNo [u, v] H' Q' L2.E0) := by
  refine .inr ⟨b, p, q, xs, xs, rfl, rfl, hp, hq, rfl, hl, fun i u v e1 e2 H' Q' _ k => ?_⟩
  rw [e1] at e2
  cases e2
  exact spSame_flat (flat_at hf e1) k
theorem same_new {H : Hp} {p : Addr} {o : HO} (h : H p = none) : Same H (upd H p o) := fun b x e => by
  rw [upd_ne (ne_of_none e h)]
  exact e
end Lx

namespace Lx
open PySem PySem.Spec PyProof.Rows L2 LamX NdefX
/-! ### xs.count(y) of flat things -/
theorem countU {y : V} : ∀ {ys : List V} {us : List Value}, Vals ys us → ys.all flatV = true → us.countP (eqU y) = ys.countP (fun z => eqV z y)
  | _, _, .nil, _ => rfl
  | _, _, .cons r t, f => by
    simp only [List.all_cons, Bool.and_eq_true] at f
    rw [List.countP_cons, List.countP_cons, countU t f.2, eqU_of r f.1]
theorem mt_fcount {X : Cx} : MtR X "list.count" (fun x xs H Q => ∃ (p : Addr) (ys : List V) (y : V), x = .ref p ∧ xs = [y] ∧ SqL X.K H p ys ∧ flatV y = true ∧ ys.all flatV = true ∧
    Q (.int ((ys.countP fun z => eqV z y : Nat) : Int)) H) := by
  intro pins s σ H x xs v us Q I rx rxs h
  obtain ⟨p, ys, y, rfl, rfl, hs, fy, fys, q⟩ := h
  cases rx
  obtain ⟨uy, rfl, ry⟩ := rxs.one
  obtain ⟨its, rv, ⟨⟨cls, dd, data, sl⟩, n, ho, hc, hdn, hd⟩, hlen⟩ := I.list hs
  simp only at hc hd
  subst hc hd
  refine call_meets PySem.F.slot_list_count ⟨_, ho, rfl⟩ PySem.F.entry_list_count (PySem.F.args_list_count_2 _ _)
    (SeqAt.list_countAt p its.toArray n dd sl uy (eqU y)) ⟨ho, fun u hu => mem_eqAt ry fy rv fys u (by simpa using hu), ?_⟩
  refine ⟨.int ((ys.countP fun z => eqV z y : Nat) : Int), H, I.tok _, ⟨s.toks, ?_⟩, q⟩
  have e : its.toArray.toList.countP (eqU y) = ys.countP fun z => eqV z y := countU rv fys
  show Value.int ((its.toArray.toList.countP (eqU y) : Nat) : Int) s.toks = _
  rw [e]
/-! ### the kinds of refusals -/
def rIsK (K : PySem.W.Frag) (cls : Value) (d : Option Addr) (a : Addr) : List V → Hp → VK → Prop := fun xs H Q => ∃ D : Addr, cls = .ref D ∧ d = none ∧ ExcC K D ∧ rIsE K D a xs H Q
theorem call_isK {X : Cx} {a : Addr} {cls : Value} {d : Option Addr} {oe : Obj} {pn : List (Addr × Obj)} (hz : Zc cls d oe) (hf : ∃ vs, oe.data = .fields vs) :
    CallR (X.suite a ((a, oe) :: pn)) (.builtin "isinstance") (rIsK X.K cls d a) := by
  intro pins s σ H xs us Q I r h
  obtain ⟨D, rfl, rfl, C, h⟩ := h
  exact call_isE C hz hf pins s σ H xs us Q I r h
def wds : List Str := ["BadWheel", "BadRule", "BadSeen", "BadGaps", "BadSpan", "BadLong", "NoGap", "NoSpan"]
/-- where the nine classes stand -/
structure Nine (mg : Str → Option Value) (CE : Addr) (Cs : Fin 8 → Addr) : Prop where
  g : mg "WrapError" = some (.ref CE)
  g0 : mg "BadWheel" = some (.ref (Cs 0))
  g1 : mg "BadRule" = some (.ref (Cs 1))
  g2 : mg "BadSeen" = some (.ref (Cs 2))
  g3 : mg "BadGaps" = some (.ref (Cs 3))
  g4 : mg "BadSpan" = some (.ref (Cs 4))
  g5 : mg "BadLong" = some (.ref (Cs 5))
  g6 : mg "NoGap" = some (.ref (Cs 6))
  g7 : mg "NoSpan" = some (.ref (Cs 7))
  isi : mg "isinstance" = none
  ve : mg "ValueError" = none
/-- the class at D is the j-th kind, and no other -/
structure Kd (K : PySem.W.Frag) (CE : Addr) (Cs : Fin 8 → Addr) (D : Addr) (j : Fin 8) : Prop where
  c : ExcC K D
  x : PySem.W.exmOne K (.ref D) (.ref CE) = some true
  i : ∀ i : Fin 8, PySem.W.kitOne K (.ref D) (.ref (Cs i)) = some (decide (j = i))
  v : PySem.W.kitOne K (.ref D) (.type "ValueError") = some true
def bits (j : Fin 8) : List V := [.bl (decide (j = 0)), .bl (decide (j = 1)), .bl (decide (j = 2)), .bl (decide (j = 3)), .bl (decide (j = 4)), .bl (decide (j = 5)), .bl (decide (j = 6)), .bl (decide (j = 7))]
theorem bits_flat : ∀ j, (bits j).all flatV = true := by decide
theorem bits_count : ∀ j, (bits j).countP (fun z => eqV z (.bl true)) = 1 := by decide
theorem bits_at : ∀ j : Fin 8, (bits j)[j.val]? = some (.bl true) := by decide
theorem bits_no : ∀ j m : Fin 8, m < j → (bits j)[m.val]? = some (.bl false) := by decide
theorem wds_at : ∀ j : Fin 8, atI (wds.map V.str) (j.val : Int) = some (.str (wds.getD j.val "")) := by
  intro j
  refine atI_nat ?_
  match j with
  | 0 => rfl
  | 1 => rfl
  | 2 => rfl
  | 3 => rfl
  | 4 => rfl
  | 5 => rfl
  | 6 => rfl
  | 7 => rfl
/-- what _law_kind makes of the lambda's promise tl -/
def TTK (K : PySem.W.Frag) (CE : Addr) (Cs : Fin 8 → Addr) : TTy := fun tl H Q =>
  ∀ E : XK, (∀ (D : Addr) (j : Fin 8) (H' : Hp), Kd K CE Cs D j → (∀ H'', Same H' H'' → Q (.str (wds.getD j.val "")) H'') → E (.ref D) none H') → tl E H Q
/-- a block by what it means -/
theorem pss_sem {X : Cx} {body : List Stmt} {ts : TS} (h : ∀ D σ H, ts D σ H → ∃ t, PSs X body t ∧ t D σ H) : PSs X body ts := by
  refine ⟨fun pins s σ H D I z => ?_⟩
  obtain ⟨t, ht, hq⟩ := h D σ H z
  exact ht.run pins s σ H D I hq
end Lx

namespace Lx
open PySem PySem.Spec PyProof.Rows L2 LamX NdefX
/-! ### where a lambda stands in the text -/
def forBody : Stmt → List Stmt
  | .For _ _ b _ _ => b
  | _ => []
def ifTest : Stmt → Expr
  | .If t _ _ _ => t
  | _ => .Constant .none 0 ⟨0, 0, 0, 0⟩
def asgV : Stmt → Expr
  | .Assign _ v _ => v
  | _ => .Constant .none 0 ⟨0, 0, 0, 0⟩
def exprV : Stmt → Expr
  | .Expr v _ => v
  | _ => .Constant .none 0 ⟨0, 0, 0, 0⟩
def lstAt (i : Nat) : Expr → Expr
  | .List es _ => es.getD i (.Constant .none 0 ⟨0, 0, 0, 0⟩)
  | _ => .Constant .none 0 ⟨0, 0, 0, 0⟩
def callArg (i : Nat) : Expr → Expr
  | .Call _ es _ _ => es.getD i (.Constant .none 0 ⟨0, 0, 0, 0⟩)
  | _ => .Constant .none 0 ⟨0, 0, 0, 0⟩
def lamP : Expr → Arguments
  | .Lambda p _ _ _ => p
  | _ => { posonlyargs := [], args := [], vararg := none, kwonlyargs := [], kw_defaults := [], kwarg := none, defaults := [] }
def lamB : Expr → Expr
  | .Lambda _ b _ _ => b
  | e => e
def lamS : Expr → Scope
  | .Lambda _ _ s _ => s
  | _ => { kind := .function, names := [], isGenerator := false, isCoroutine := false }
/-! ### heaps with tables -/
theorem tabs_but {K : PySem.W.Frag} {T : List (Addr × Str)} {S : Addr} {H H' : Hp} (t : Tabs T H) (b : But S H H') (s : StAt K S H) : Tabs T H' := by
  intro p hp
  obtain ⟨ps, h1, h2, h3⟩ := t p hp
  refine ⟨ps, b _ _ (s.ne h1 fun _ z => by cases z) h1, h2, fun pos cv hc => ?_⟩
  obtain ⟨c, e1, e2⟩ := h3 pos cv hc
  exact ⟨c, e1, b _ _ (s.ne e2 fun _ z => by unfold CodeO at z; cases z) e2⟩
theorem tabs_same {T : List (Addr × Str)} {H H' : Hp} (t : Tabs T H) (b : Same H H') : Tabs T H' := t.ext b
theorem put_keep {H : Hp} {p b : Addr} {xs : List V} {o u : HO} (h : H p = some (.lst xs)) (e : H b = some u) (n : ∀ ys, u ≠ .lst ys) : upd H p o b = some u := by
  rw [upd_ne (fun z => n xs (by rw [z, h] at e; exact (Option.some.inj e).symm))]
  exact e
theorem tabs_put {T : List (Addr × Str)} {H : Hp} {p : Addr} {xs : List V} {o : HO} (t : Tabs T H) (h : H p = some (.lst xs)) : Tabs T (upd H p o) := by
  intro q hq
  obtain ⟨ps, h1, h2, h3⟩ := t q hq
  refine ⟨ps, put_keep h h1 (fun _ z => by cases z), h2, fun pos cv hc => ?_⟩
  obtain ⟨c, e1, e2⟩ := h3 pos cv hc
  exact ⟨c, e1, put_keep h e2 fun _ z => by unfold CodeO at z; cases z⟩
theorem extN_put {G H : Hp} {p : Addr} {o : HO} (x : ExtN G H) (n : G p = none) : ExtN G (upd H p o) := fun b u e k => by
  rw [upd_ne (ne_of_none e n)]
  exact x b u e k
theorem lm_put {H : Hp} {p f : Addr} {F : NF} {eb : Expr} {xs : List V} {o : HO} (e : H f = some (LmO f F eb)) (h : H p = some (.lst xs)) : upd H p o f = some (LmO f F eb) := put_keep h e fun _ z => by unfold LmO at z; cases z
theorem co_put {H : Hp} {p c : Addr} {q : Str} {xs : List V} {o : HO} (e : H c = some (CodeO c q)) (h : H p = some (.lst xs)) : upd H p o c = some (CodeO c q) := put_keep h e fun _ z => by unfold CodeO at z; cases z
theorem lm_ext {H H' : Hp} {f : Addr} {F : NF} {eb : Expr} (x : ExtN H H') (e : H f = some (LmO f F eb)) : H' f = some (LmO f F eb) := x _ _ e lmO_ne
theorem co_ext {H H' : Hp} {c : Addr} {q : Str} (x : ExtN H H') (e : H c = some (CodeO c q)) : H' c = some (CodeO c q) := x _ _ e codeO_ne
theorem lst_ext {H H' : Hp} {p : Addr} {xs : List V} (x : ExtN H H') (e : H p = some (.lst xs)) : H' p = some (.lst xs) := x _ _ e fun _ z => by cases z
/-- a lambda and its code -/
def LmAt (H : Hp) (f : Addr) (F : NF) (eb : Expr) : Prop := H f = some (LmO f F eb) ∧ H F.c = some (CodeO F.c F.qual)
theorem LmAt.put {H : Hp} {p f : Addr} {F : NF} {eb : Expr} {xs : List V} {o : HO} (l : LmAt H f F eb) (h : H p = some (.lst xs)) : LmAt (upd H p o) f F eb := ⟨lm_put l.1 h, co_put l.2 h⟩
theorem LmAt.ext {H H' : Hp} {f : Addr} {F : NF} {eb : Expr} (l : LmAt H f F eb) (x : ExtN H H') : LmAt H' f F eb := ⟨lm_ext x l.1, co_ext x l.2⟩
theorem LmAt.same {H H' : Hp} {f : Addr} {F : NF} {eb : Expr} (l : LmAt H f F eb) (x : Same H H') : LmAt H' f F eb := ⟨x _ _ l.1, x _ _ l.2⟩
/-! ### since and order of true times -/
theorem mod_to {t f n : Int} (h0 : 0 ≤ f) (h1 : f < n) : ((t + f) % n - t % n) % n = f := by
  rw [← Int.sub_emod, show t + f - t = f by omega]
  exact Int.emod_eq_of_lt h0 h1
theorem mod_back {t f n : Int} : (t % n - (t + f) % n) % n = (-f) % n := by
  rw [← Int.sub_emod, show t - (t + f) = -f by omega]
theorem neg_mod {f n : Int} (h0 : 0 < f) (h1 : f < n) : (-f) % n = n - f := by
  have e : -f = (n - f) + n * (-1) := by omega
  rw [e, Int.add_mul_emod_self_left]
  exact Int.emod_eq_of_lt (by omega) (by omega)
/-- the four ways that two shown numbers may lie -/
def backs : List (Key × V) := [(.inr "same", .str "same"), (.inr "opposite", .str "opposite"), (.inr "ahead", .str "behind"), (.inr "behind", .str "ahead")]
theorem ord_back {f n : Int} (h0 : 0 ≤ f) (h1 : f < n) : valV (mergeK [] backs) (.inr (ordW n f)) = some (.str (ordW n ((-f) % n))) := by
  by_cases z : f = 0
  · subst z
    have e1 : ordW n 0 = "same" := by unfold ordW; rfl
    rw [show (-(0 : Int)) % n = 0 by simp, e1]
    decide +kernel
  · rw [neg_mod (by omega) h1]
    unfold ordW
    rw [if_neg (show ¬ 2 * f = 0 by omega), if_neg (show ¬ 2 * (n - f) = 0 by omega)]
    by_cases a : 2 * f = n
    · rw [if_pos a, if_pos (show 2 * (n - f) = n by omega)]
      decide +kernel
    · rw [if_neg a, if_neg (show ¬ 2 * (n - f) = n by omega)]
      by_cases b : 2 * f < n
      · rw [if_pos b, if_neg (show ¬ 2 * (n - f) < n by omega)]
        decide +kernel
      · rw [if_neg b, if_pos (show 2 * (n - f) < n by omega)]
        decide +kernel
end Lx

namespace Lx
open PySem PySem.Spec PyProof.Rows L2 LamX NdefX
/-! ### the end of a law, its makers' tables and the loose names told -/
theorem walk_ofX {l : PySem.W.OpenLaw} {n k : Nat} {q : Program} {loose : List Str} {XP : (Str → Option Value) → Heap → Prop} {YP : World → Heap → Prop} {d : DefRec} {K : Params → PySem.W.Frag} {CX : World → CXT} {x : Str}
    (hn : l.most = some n) (hn2 : n ≤ sizeLine) (hdf : d.params.defaults = []) (hr : Room k callerA) (hY : ∀ (w : World) (h : Heap), YP w h → (K w.params).In h)
    (F : ∀ (w : World) (mg : Str → Option Value) (fa : Addr) (h : Heap), YP w h → XP mg h → (K w.params).In h → h.Ns mainGlobals mg → mg d.name = some (.ref fa) → LawAtS l w (K w.params) (CX w) k n x mg fa h)
    (hCX : ∀ (w : World) (H : Hp) (s : Shared) (e : Value) (s' : Shared), CX w [] H s (fun _ _ _ => False) e s' → False) :
    PySem.W.WalkO q loose XP YP l.row.toRowW d [] (fun f vs => PySem.call f vs) := by
  refine Att.attach_callB hn hdf ?_
  intro w s₀ s₁ mg mb fa o pm cd doc a vs ns G Y ho hd hcd hmg hobj hints hlen hbits hg
  have KX := hY w _ Y
  obtain ⟨fd, cs, sp, hT, nT, C, hb, hsp, hF⟩ := F w mg fa _ Y G.X KX G.T.g hmg
  refine law_callTs KX G.T.g G.T.b G.T.builtins G.T.nolimit hg hT nT C G.T.bmain hobj hints (Nat.le_trans hlen hn2) hr hF hb ?_ ?_
  · intro H hH hS
    exact hsp H a ns hlen hbits hH hS
  · intro H e s'
    exact hCX w H s₁ e s'
theorem loose_int {mg : Str → Option Value} {h : Heap} {p : Program} {lv : List (Str × PySem.W.WData)} {x : Str} {i : Int} (X : PySem.W.XL p lv mg h) (m : ((x, PySem.W.WData.int i) : Str × PySem.W.WData) ∈ lv) : ∃ t, mg x = some (.int i t) := by
  obtain ⟨v, e, r⟩ := X.2.val _ m
  cases r
  exact ⟨_, e⟩
/-! ### facts of the written part, for classes of refusals -/
theorem kit_ref {K : PySem.W.Frag} {D C : Addr} {b : Bool} (h1 : PySem.W.isClsIn K C = true) (ht : PySem.W.typeIn K (.ref C) = some (.type "type")) (h : PySem.W.subIn K (.ref D) (.ref C) = some b) (hb : D = C → b = true) :
    PySem.W.kitOne K (.ref D) (.ref C) = some b := by
  unfold PySem.W.kitOne PySem.W.kitCls
  by_cases e : D = C
  · subst e
    rw [if_pos (by simp), hb rfl]
  · rw [if_neg (by simpa using e)]
    have h1' : (PySem.W.clsIn K C).isSome = true := h1
    show (if ((PySem.W.clsIn K C).isSome && PySem.W.typeIn K (.ref C) == some (.type "type")) = true then PySem.W.subIn K (.ref D) (.ref C) else none) = some b
    rw [h1', ht]
    exact h
theorem kit_ve {K : PySem.W.Frag} {D : Addr} (h : PySem.W.subIn K (.ref D) (.type "ValueError") = some true) : PySem.W.kitOne K (.ref D) (.type "ValueError") = some true := by
  unfold PySem.W.kitOne PySem.W.kitCls
  rw [if_neg (by simp)]
  show (if PySem.W.kitMeta "ValueError" = true then PySem.W.subIn K (.ref D) (.type "ValueError") else none) = some true
  rw [if_pos (by decide +kernel)]
  exact h
/-- what the written part says of one class of refusals -/
structure Cl (K : PySem.W.Frag) (C : Addr) : Prop where
  c : ExcC K C
  i : PySem.W.isClsIn K C = true
  t : PySem.W.typeIn K (.ref C) = some (.type "type")
  v : PySem.W.subIn K (.ref C) (.type "ValueError") = some true
theorem Kd.of {K : PySem.W.Frag} {CE : Addr} {Cs : Fin 8 → Addr} {j : Fin 8} (cl : Cl K (Cs j)) (hE : PySem.W.subIn K (.ref CE) (.type "BaseException") = some true) (hdE : PySem.W.hasDictIn K CE = true) (tE : PySem.W.typeIn K (.ref CE) = some (.type "type"))
    (hs : PySem.W.subIn K (.ref (Cs j)) (.ref CE) = some true) (is : ∀ i, PySem.W.isClsIn K (Cs i) = true) (ts : ∀ i, PySem.W.typeIn K (.ref (Cs i)) = some (.type "type"))
    (ss : ∀ i, PySem.W.subIn K (.ref (Cs j)) (.ref (Cs i)) = some (decide (j = i))) (inj : ∀ i, Cs j = Cs i → j = i) : Kd K CE Cs (Cs j) j :=
  ⟨cl.c, PySem.W.exm_ref hE hdE tE hs, fun i => kit_ref (is i) (ts i) (ss i) fun e => decide_eq_true (inj i e), kit_ve cl.v⟩
end Lx

namespace Lx
open PySem PySem.Spec PyProof.Rows L2 LamX NdefX
/-- the defs of these names: what their codes hold is empty when the law begins -/
def Bare (K : PySem.W.Frag) (mg : Str → Option Value) (h : Heap) (names : List Str) : Prop :=
  ∀ nm ∈ names, ∀ f : Addr, mg nm = some (.ref f) → ∀ (ob oc : Obj) (g : FuncData) (c P : Addr) (us : Array Value),
    K.lookup f = some ob → ob.data = .func g → g.code = .ref c → K.lookup c = some oc → oc.data = .fields us → us[11]? = some (.ref P) → h.get? P = some (PySem.W.tabObj #[])
theorem walk_ofB {l : PySem.W.OpenLaw} {n k : Nat} {q : Program} {loose : List Str} {XP : (Str → Option Value) → Heap → Prop} {YP : World → Heap → Prop} {d : DefRec} {K : Params → PySem.W.Frag} {CX : World → CXT} {x : Str} (names : List Str)
    (hrec : (names.all fun nm => (recsOf q).any fun r => r.name == nm) = true)
    (hn : l.most = some n) (hn2 : n ≤ sizeLine) (hdf : d.params.defaults = []) (hr : Room k callerA) (hY : ∀ (w : World) (h : Heap), YP w h → (K w.params).In h)
    (F : ∀ (w : World) (mg : Str → Option Value) (fa : Addr) (h : Heap), YP w h → XP mg h → (K w.params).In h → h.Ns mainGlobals mg → mg d.name = some (.ref fa) → Bare (K w.params) mg h names → LawAtS l w (K w.params) (CX w) k n x mg fa h)
    (hCX : ∀ (w : World) (H : Hp) (s : Shared) (e : Value) (s' : Shared), CX w [] H s (fun _ _ _ => False) e s' → False) :
    PySem.W.WalkO q loose XP YP l.row.toRowW d [] (fun f vs => PySem.call f vs) := by
  refine Att.attach_callB hn hdf ?_
  intro w s₀ s₁ mg mb fa o pm cd doc a vs ns G Y ho hd hcd hmg hobj hints hlen hbits hg
  have KX := hY w _ Y
  have bare : Bare (K w.params) mg s₁.heap names := by
    intro nm hnm f hf ob oc gd c P us q1 q2 q3 q4 q5 q6
    have hr1 := List.all_eq_true.mp hrec nm hnm
    obtain ⟨r, r1, r2⟩ := List.any_eq_true.mp hr1
    rw [← beq_iff_eq.mp r2] at hf
    obtain ⟨f', ob', gd', c', P', t1, t2, t3, t4, t5, t6⟩ := G.T.tab r r1
    obtain rfl : f = f' := Value.ref.inj (Option.some.inj (hf.symm.trans t1))
    obtain rfl : ob = ob' := Option.some.inj ((KX _ _ q1).symm.trans t2)
    obtain rfl : gd = gd' := Data.func.inj (q2.symm.trans t3)
    obtain rfl : c = c' := Value.ref.inj (q3.symm.trans t4)
    obtain ⟨⟨oc', vc, s1, _, s3, s4⟩, hP⟩ := t6
    obtain rfl : oc = oc' := Option.some.inj ((KX _ _ q4).symm.trans s1)
    obtain rfl : us = vc := by
      have z := q5.symm.trans s3
      cases z
      rfl
    obtain rfl : P = P' := Value.ref.inj (Option.some.inj (q6.symm.trans s4))
    exact hP
  obtain ⟨fd, cs, sp, hT, nT, C, hb, hsp, hF⟩ := F w mg fa _ Y G.X KX G.T.g hmg bare
  refine law_callTs KX G.T.g G.T.b G.T.builtins G.T.nolimit hg hT nT C G.T.bmain hobj hints (Nat.le_trans hlen hn2) hr hF hb ?_ ?_
  · intro H hH hS
    exact hsp H a ns hlen hbits hH hS
  · intro H e s'
    exact hCX w H s₁ e s'
end Lx

namespace Lx
open PySem PySem.Spec PyProof.Rows L2 LamX NdefX
/-! ### math.lcm -/
def lcmI (a b : Int) : Int := ((Nat.lcm a.natAbs b.natAbs : Nat) : Int)
def rLcm : List V → Hp → VK → Prop := fun vs H Q => ∃ a b : Int, vs = [.int a, .int b] ∧ a.natAbs < 2 ^ 64 ∧ b.natAbs < 2 ^ 64 ∧ Q (.int (lcmI a b)) H
theorem lcm_log {a b : Int} (ha : a.natAbs < 2 ^ 64) (hb : b.natAbs < 2 ^ 64) : ((Nat.lcm a.natAbs b.natAbs : Nat) : Int).natAbs.log2 < bitsLine := by
  have h1 : Nat.lcm a.natAbs b.natAbs ≤ a.natAbs * b.natAbs := by
    rw [← Nat.gcd_mul_lcm a.natAbs b.natAbs]
    by_cases z : Nat.gcd a.natAbs b.natAbs = 0
    · have h1 := Nat.gcd_eq_zero_iff.mp z
      rw [h1.1, h1.2]; decide
    · exact Nat.le_mul_of_pos_left _ (Nat.pos_of_ne_zero z)
  have h2 : a.natAbs * b.natAbs < 2 ^ 128 := by
    have h3 : a.natAbs * b.natAbs ≤ 2 ^ 64 * b.natAbs := Nat.mul_le_mul_right _ (Nat.le_of_lt ha)
    have h4 : 2 ^ 64 * b.natAbs < 2 ^ 64 * 2 ^ 64 := (Nat.mul_lt_mul_left (by decide)).mpr hb
    exact Nat.lt_of_le_of_lt h3 (Nat.lt_of_lt_of_le h4 (by decide))
  have h5 := PySem.Flt.log2_lt_of (n := ((Nat.lcm a.natAbs b.natAbs : Nat) : Int).natAbs) (k := 128) (by decide) (by rw [Int.natAbs_natCast]; omega)
  have : 128 ≤ bitsLine := by decide +kernel
  omega
theorem cr_lcm {X : Cx} : CallR X (.builtin "math.lcm") rLcm := by
  intro pins s σ H vs us Q I r h
  obtain ⟨a, b, rfl, ha, hb, q⟩ := h
  obtain ⟨t, u, rfl⟩ := Vals.int2 r
  have e : (Nat.lcm 1 a.natAbs).lcm b.natAbs = Nat.lcm a.natAbs b.natAbs := by rw [Nat.lcm_one_left]
  refine PySem.W.mg_lcm ha hb (by rw [e]; exact lcm_log ha hb) ?_
  rw [e]
  exact ⟨.int (lcmI a b), H, Inv.tok I (s.toks + 1), ⟨s.toks, rfl⟩, q⟩
end Lx

namespace Lx
/-! ### the mathematics of rules -/
inductive Rul | up (l : Int) | near | pair (o : Int) | about (f : Int)
def RulOk (n : Int) : Rul → Prop
  | .up l => 0 ≤ l ∧ l ≤ 1000000000000
  | .near => True
  | .pair o => Wh o
  | .about f => 0 ≤ f ∧ 2 * f < n
/-- the bounds -/
def bd (n : Int) : Rul → Int × Int
  | .up l => (l, l + n - 1)
  | .near => (-((n - 1) / 2), n / 2)
  | .pair o => (0, lcmI n o - 1)
  | .about f => (-f, f)
/-- the bounds of what gap tells, with an about -/
def gd (n : Int) (r : Rul) (c : Int) : Int × Int := match r with
  | .about f => (c - f, c + f)
  | r => bd n r
/-- a number has the rests of how far it is -/
def Fits (n : Int) (r : Rul) (d : Int × Int) (g : Int) : Prop := match r with
  | .pair o => n ∣ g - d.1 ∧ o ∣ g - d.2
  | _ => n ∣ g - d.1
/-- what gap tells -/
def GapR (n : Int) (r : Rul) (d : Int × Int) (c : Int) : Option Int → Prop
  | some g => (gd n r c).1 ≤ g ∧ g ≤ (gd n r c).2 ∧ Fits n r d g
  | none => ∀ g, (gd n r c).1 ≤ g → g ≤ (gd n r c).2 → ¬ Fits n r d g
theorem lcmI_dvd {a b x : Int} (h1 : a ∣ x) (h2 : b ∣ x) : lcmI a b ∣ x := by
  have h := Nat.lcm_dvd (Int.natAbs_dvd_natAbs.mpr h1) (Int.natAbs_dvd_natAbs.mpr h2)
  exact Int.natAbs_dvd_natAbs.mp (by unfold lcmI; rw [Int.natAbs_natCast]; exact h)
theorem dvd_lcm1 (a b : Int) : a ∣ lcmI a b := by
  have h := Nat.dvd_lcm_left a.natAbs b.natAbs
  exact Int.natAbs_dvd_natAbs.mp (by unfold lcmI; rw [Int.natAbs_natCast]; exact h)
theorem dvd_lcm2 (a b : Int) : b ∣ lcmI a b := by
  have h := Nat.dvd_lcm_right a.natAbs b.natAbs
  exact Int.natAbs_dvd_natAbs.mp (by unfold lcmI; rw [Int.natAbs_natCast]; exact h)
theorem lcm_pos {a b : Int} (ha : 0 < a) (hb : 0 < b) : 0 < lcmI a b := by
  have h := Nat.lcm_pos (m := a.natAbs) (n := b.natAbs) (by omega) (by omega)
  unfold lcmI; omega
theorem lcm_gcd {a b : Int} (ha : 0 < a) (hb : 0 < b) : a * b = (Int.gcd a b : Int) * lcmI a b := by
  have h := Nat.gcd_mul_lcm a.natAbs b.natAbs
  have e : ((a.natAbs.gcd b.natAbs * a.natAbs.lcm b.natAbs : Nat) : Int) = ((a.natAbs * b.natAbs : Nat) : Int) := by rw [h]
  rw [Int.natCast_mul, Int.natCast_mul, Int.natAbs_of_nonneg (Int.le_of_lt ha), Int.natAbs_of_nonneg (Int.le_of_lt hb)] at e
  exact e.symm
theorem gcd_pos {a b : Int} (ha : 0 < a) : 0 < (Int.gcd a b : Int) := by
  have h := Int.gcd_pos_of_ne_zero_left b (a := a) (by omega)
  omega
/-- below the modulus alike is the same -/
theorem dvd_small {m x : Int} (h : m ∣ x) (h1 : -m < x) (h2 : x < m) : x = 0 := by
  obtain ⟨k, rfl⟩ := h
  have hm : 0 < m := by
    rcases Int.lt_trichotomy m 0 with z | z | z
    · omega
    · subst z; simp at h1
    · exact z
  have k1 : k < 1 := by
    rcases Int.lt_or_le k 1 with z | z
    · exact z
    · have := Int.mul_le_mul_of_nonneg_left z (Int.le_of_lt hm); omega
  have k2 : -1 < k := by
    rcases Int.lt_or_le (-1) k with z | z
    · exact z
    · have := Int.mul_le_mul_of_nonneg_left z (Int.le_of_lt hm); omega
  have : k = 0 := by omega
  subst this; simp
theorem gd_wide {n c : Int} {r : Rul} (hn : Wh n) (h : RulOk n r) : (gd n r c).2 - (gd n r c).1 < match r with | .pair o => lcmI n o | _ => n := by
  obtain ⟨h1, h2⟩ := hn
  cases r with
  | up l => show l + n - 1 - l < n; omega
  | near => show n / 2 - (-((n - 1) / 2)) < n; omega
  | pair o => show lcmI n o - 1 - 0 < lcmI n o; omega
  | about f => obtain ⟨h3, h4⟩ : 0 ≤ f ∧ 2 * f < n := h; show c + f - (c - f) < n; omega
theorem dvd_sub3 {m a b d : Int} (h1 : m ∣ a - d) (h2 : m ∣ b - d) : m ∣ a - b := by
  have h := Int.dvd_sub h1 h2
  rwa [show a - d - (b - d) = a - b by omega] at h
/-- within the bounds there is one at most -/
theorem gap_one {n c g g2 : Int} {r : Rul} {d : Int × Int} (hn : Wh n) (h : RulOk n r) (h1 : (gd n r c).1 ≤ g) (h2 : g ≤ (gd n r c).2) (h3 : Fits n r d g) (h4 : (gd n r c).1 ≤ g2) (h5 : g2 ≤ (gd n r c).2) (h6 : Fits n r d g2) : g = g2 := by
  have w := gd_wide (c := c) hn h
  suffices g - g2 = 0 by omega
  cases r with
  | up l => exact dvd_small (dvd_sub3 h3 h6) (by simp only at w; omega) (by simp only at w; omega)
  | near => exact dvd_small (dvd_sub3 h3 h6) (by simp only at w; omega) (by simp only at w; omega)
  | about f => exact dvd_small (dvd_sub3 h3 h6) (by simp only at w; omega) (by simp only at w; omega)
  | pair o => exact dvd_small (lcmI_dvd (dvd_sub3 h3.1 h6.1) (dvd_sub3 h3.2 h6.2)) (by simp only at w; omega) (by simp only at w; omega)
/-- the least from lo on with the rest -/
theorem least_from {n lo d : Int} (hn : 0 < n) : n ∣ lo + (d % n - lo) % n - d ∧ lo ≤ lo + (d % n - lo) % n ∧ lo + (d % n - lo) % n < lo + n := by
  refine ⟨?_, ?_, ?_⟩
  · have h1 := Int.emod_emod_of_dvd d (Int.dvd_refl n)
    have h2 := Int.mul_ediv_add_emod (d % n - lo) n
    have h3 := Int.mul_ediv_add_emod d n
    generalize (d % n - lo) / n = a at h2
    generalize (d % n - lo) % n = b at h2 ⊢
    generalize d / n = e at h3
    refine ⟨-a - e, ?_⟩
    rw [Int.mul_sub, Int.mul_neg]
    omega
  · have := Int.emod_nonneg (d % n - lo) (by omega : n ≠ 0); omega
  · have := Int.emod_lt_of_pos (d % n - lo) hn; omega
theorem gap_up {n c lo : Int} {r : Rul} {d : Int × Int} (hn : Wh n) (hr : (∀ o, r ≠ .pair o) ∧ (∀ f, r ≠ .about f)) (e : lo = (bd n r).1) : GapR n r d c (some (lo + (d.1 % n - lo) % n)) := by
  obtain ⟨h1, h2, h3⟩ := least_from (n := n) (lo := lo) (d := d.1) (by have := hn.1; omega)
  subst e
  have hn1 := hn.1
  cases r with
  | pair o => exact absurd rfl (hr.1 o)
  | about f => exact absurd rfl (hr.2 f)
  | up l => exact ⟨h2, Int.le_sub_one_of_lt h3, h1⟩
  | near =>
    refine ⟨h2, ?_, h1⟩
    have h4 : (bd n .near).1 + n ≤ n / 2 + 1 := by show -((n - 1) / 2) + n ≤ n / 2 + 1; omega
    show _ ≤ n / 2
    omega
theorem gap_about {n c f : Int} {d : Int × Int} (hn : Wh n) (h : c - f + (d.1 % n - (c - f)) % n ≤ c + f) : GapR n (.about f) d c (some (c - f + (d.1 % n - (c - f)) % n)) := by
  obtain ⟨h1, h2, h3⟩ := least_from (n := n) (lo := c - f) (d := d.1) (by have := hn.1; omega)
  exact ⟨h2, h, h1⟩
theorem gap_about_no {n c f : Int} {d : Int × Int} (hn : Wh n) (h : c + f < c - f + (d.1 % n - (c - f)) % n) : GapR n (.about f) d c none := by
  obtain ⟨h1, h2, h3⟩ := least_from (n := n) (lo := c - f) (d := d.1) (by have := hn.1; omega)
  intro g g1 g2 g3
  have g1 : c - f ≤ g := g1
  have g2 : g ≤ c + f := g2
  have z := dvd_small (dvd_sub3 h1 g3) (by omega) (by omega)
  omega
/-- of a pair: what is counted -/
theorem gap_pair {n o g t q c : Int} {d : Int × Int} (hn : 0 < n) (ho : 0 < o) (hg : g = (Int.gcd n o : Int)) (ht : o ∣ g - t * n) (hm : (d.2 - d.1 % n) % g = 0) (hq : q = (d.2 - d.1 % n) / g * t % (o / g)) : GapR n (.pair o) d c (some (d.1 % n + q * n)) := by
  have gp : 0 < g := by rw [hg]; exact gcd_pos hn
  have gn : g ∣ n := by rw [hg]; exact Int.gcd_dvd_left n o
  have go : g ∣ o := by rw [hg]; exact Int.gcd_dvd_right n o
  obtain ⟨k, hk⟩ := go
  obtain ⟨l, hl⟩ := gn
  have kp : 0 < k := by
    rcases Int.lt_or_le 0 k with z | z
    · exact z
    · have := Int.mul_le_mul_of_nonneg_left z (Int.le_of_lt gp); omega
  have ek : o / g = k := by rw [hk]; exact Int.mul_ediv_cancel_left k (by omega)
  rw [ek] at hq
  have q0 : 0 ≤ q := by rw [hq]; exact Int.emod_nonneg _ (by omega)
  have q1 : q < k := by rw [hq]; exact Int.emod_lt_of_pos _ kp
  have r0 := Int.emod_nonneg d.1 (show n ≠ 0 by omega)
  have r1 := Int.emod_lt_of_pos d.1 hn
  have L : lcmI n o = k * n := by
    have h := lcm_gcd hn ho
    rw [← hg, hk, ← Int.mul_assoc, Int.mul_comm n g, Int.mul_assoc] at h
    have := Int.eq_of_mul_eq_mul_left (by omega : g ≠ 0) h
    rw [hk, ← this, Int.mul_comm]
  refine ⟨?_, ?_, ?_, ?_⟩
  · show 0 ≤ d.1 % n + q * n
    have := Int.mul_nonneg q0 (Int.le_of_lt hn); omega
  · show d.1 % n + q * n ≤ lcmI n o - 1
    rw [L]
    have h := Int.mul_le_mul_of_nonneg_right (show q ≤ k - 1 by omega) (Int.le_of_lt hn)
    rw [Int.sub_mul] at h
    omega
  · show n ∣ d.1 % n + q * n - d.1
    have h3 := Int.mul_ediv_add_emod d.1 n
    refine ⟨q - d.1 / n, ?_⟩
    rw [Int.mul_sub, Int.mul_comm n q]; omega
  · show o ∣ d.1 % n + q * n - d.2
    have hm2 := Int.mul_ediv_add_emod (d.2 - d.1 % n) g
    rw [hm] at hm2
    generalize hs : (d.2 - d.1 % n) / g = s at *
    have hq2 := Int.mul_ediv_add_emod (s * t) k
    rw [← hq] at hq2
    generalize s * t / k = u at hq2
    obtain ⟨v, hv⟩ := ht
    -- q = s t - k u; q n = s t n - k u n; t n = g - o v; s t n = s g - s o v; k n = k g l = o l
    refine ⟨-(s * v) - u * l, ?_⟩
    have e1 : q = s * t - k * u := by omega
    have e2 : q * n = s * (t * n) - k * u * n := by rw [e1, Int.sub_mul, Int.mul_assoc]
    have e3 : t * n = g - o * v := by omega
    have e4 : s * (t * n) = s * g - s * (o * v) := by rw [e3, Int.mul_sub]
    have e5 : k * u * n = o * (u * l) := by
      rw [hl, hk, Int.mul_comm k u, Int.mul_comm g k, Int.mul_assoc, Int.mul_assoc, Int.mul_left_comm u k, Int.mul_left_comm u g]
    have e6 : s * (o * v) = o * (s * v) := Int.mul_left_comm s o v
    have e7 : g * s = s * g := Int.mul_comm g s
    rw [e2, e4, e5, e6, Int.mul_sub, Int.mul_neg]
    omega
theorem gap_pair_no {n o g c : Int} {d : Int × Int} (hg : g = (Int.gcd n o : Int)) (hm : (d.2 - d.1 % n) % g ≠ 0) : GapR n (.pair o) d c none := by
  intro x _ _ h
  have gn : g ∣ n := by rw [hg]; exact Int.gcd_dvd_left n o
  have go : g ∣ o := by rw [hg]; exact Int.gcd_dvd_right n o
  obtain ⟨h1, h2⟩ : n ∣ x - d.1 ∧ o ∣ x - d.2 := h
  refine hm (Int.emod_eq_zero_of_dvd ?_)
  have h3 : n ∣ d.1 - d.1 % n := by
    have := Int.mul_ediv_add_emod d.1 n
    exact ⟨d.1 / n, by omega⟩
  have h4 : g ∣ (x - d.1) + (d.1 - d.1 % n) - (x - d.2) := Int.dvd_sub (Int.dvd_add (Int.dvd_trans gn h1) (Int.dvd_trans gn h3)) (Int.dvd_trans go h2)
  rwa [show (x - d.1) + (d.1 - d.1 % n) - (x - d.2) = d.2 - d.1 % n by omega] at h4
/-- one step of the greatest common divisor -/
theorem gcd_step {a b q : Int} : Int.gcd b (a - q * b) = Int.gcd a b := by
  rw [Int.gcd_comm b, Int.gcd_sub_mul_right_left]
end Lx

namespace Lx
open PySem PySem.Spec PyProof.Rows L2 LamX NdefX
/-! ### rules as tuples -/
def rulT : Rul → List V
  | .up l => [.str "up", .int l]
  | .near => [.str "near"]
  | .pair o => [.str "pair", .int o]
  | .about f => [.str "about", .int f]
/-- tuples that may be handed in as rules -/
inductive RulF : List V → Prop
  | two (k : Str) (s : Int) : RulF [.str k, .int s]
  | one (k : Str) (h : PyData.strOk k = true) : RulF [.str k]
  | nil : RulF []
  | three (k : Str) (s t : Int) (h : PyData.strOk k = true) : RulF [.str k, .int s, .int t]
theorem rulT_F (r : Rul) : RulF (rulT r) := by
  cases r with
  | up l => exact .two _ _
  | near => exact .one _ (by decide +kernel)
  | pair o => exact .two _ _
  | about f => exact .two _ _
def twoB (n : Int) (k : Str) (s : Int) : Bool :=
  if k = "up" then decide (0 ≤ s ∧ s ≤ 1000000000000) else if k = "pair" then decide (Wh s) else if k = "about" then decide (0 ≤ 2 * s ∧ 2 * s < n) else false
def RulB (n : Int) : List V → Bool
  | [.str k, .int s] => twoB n k s
  | [.str k] => decide (k = "near")
  | _ => false
theorem rul_of {n : Int} {xs : List V} (f : RulF xs) (h : RulB n xs = true) : ∃ r, xs = rulT r ∧ RulOk n r := by
  cases f with
  | nil => cases h
  | three k s t _ => cases h
  | one k _ =>
    have e : k = "near" := of_decide_eq_true h
    subst e
    exact ⟨.near, rfl, trivial⟩
  | two k s =>
    have h : twoB n k s = true := h
    unfold twoB at h
    split at h
    · rename_i e; subst e; exact ⟨.up s, rfl, of_decide_eq_true (p := 0 ≤ s ∧ s ≤ 1000000000000) h⟩
    split at h
    · rename_i e; subst e; exact ⟨.pair s, rfl, of_decide_eq_true (p := Wh s) h⟩
    split at h
    · rename_i e; subst e
      have h2 : 0 ≤ 2 * s ∧ 2 * s < n := of_decide_eq_true h
      exact ⟨.about s, rfl, by omega, h2.2⟩
    · cases h
theorem rul_B {n : Int} {r : Rul} (h : RulOk n r) : RulB n (rulT r) = true := by
  cases r with
  | up l => exact decide_eq_true h
  | near => exact decide_eq_true (p := ("near" : Str) = "near") rfl
  | pair o => exact decide_eq_true h
  | about f => exact decide_eq_true (show 0 ≤ 2 * f ∧ 2 * f < n from ⟨by have := h.1; omega, h.2⟩)
theorem rulT_inj : ∀ {r s : Rul}, rulT r = rulT s → r = s := by
  intro r s h
  cases r with
  | up l => cases s with
    | up m => have h2 := V.int.inj (List.cons.inj (List.cons.inj h).2).1; rw [h2]
    | near => cases (List.cons.inj h).2
    | pair o => have h2 := V.str.inj (List.cons.inj h).1; exact absurd h2 (by decide)
    | about o => have h2 := V.str.inj (List.cons.inj h).1; exact absurd h2 (by decide)
  | near => cases s with
    | near => rfl
    | up m => cases (List.cons.inj h).2
    | pair o => cases (List.cons.inj h).2
    | about o => cases (List.cons.inj h).2
  | pair l => cases s with
    | pair m => have h2 := V.int.inj (List.cons.inj (List.cons.inj h).2).1; rw [h2]
    | near => cases (List.cons.inj h).2
    | up o => have h2 := V.str.inj (List.cons.inj h).1; exact absurd h2 (by decide)
    | about o => have h2 := V.str.inj (List.cons.inj h).1; exact absurd h2 (by decide)
  | about l => cases s with
    | about m => have h2 := V.int.inj (List.cons.inj (List.cons.inj h).2).1; rw [h2]
    | near => cases (List.cons.inj h).2
    | up o => have h2 := V.str.inj (List.cons.inj h).1; exact absurd h2 (by decide)
    | pair o => have h2 := V.str.inj (List.cons.inj h).1; exact absurd h2 (by decide)
theorem sqT_same {K : PySem.W.Frag} {H H' : Hp} {a : Addr} {xs : List V} (s : Same H H') (h : SqT K H a xs) : SqT K H' a xs := by
  rcases h with (h | ⟨o, h⟩) | h
  · exact .inl (.inl (s _ _ h))
  · exact .inl (.inr ⟨o, s _ _ h⟩)
  · exact .inr h
/-- what is shown -/
def SeenAt (K : PySem.W.Frag) (H : Hp) (r : Rul) (v : V) (s : Int × Int) : Prop := match r with
  | .pair _ => ∃ p, v = .ref p ∧ SqT K H p [.int s.1, .int s.2]
  | _ => v = .int s.1
theorem SeenAt.same {K : PySem.W.Frag} {H H' : Hp} {r : Rul} {v : V} {s : Int × Int} (e : Same H H') (h : SeenAt K H r v s) : SeenAt K H' r v s := by
  cases r with
  | pair o => obtain ⟨p, e1, e2⟩ := h; exact ⟨p, e1, sqT_same e e2⟩
  | up _ => exact h
  | near => exact h
  | about _ => exact h
def ShOk (n : Int) (r : Rul) (s : Int × Int) : Prop := match r with
  | .pair o => Sn n s.1 ∧ Sn o s.2
  | _ => Sn n s.1
/-- what a rule's wheels show of a time -/
def shS (n : Int) (r : Rul) (t : Int) : Int × Int := match r with
  | .pair o => (t % n, t % o)
  | _ => (t % n, 0)
theorem sh_ok {n t : Int} {r : Rul} (hn : Wh n) (h : RulOk n r) : ShOk n r (shS n r t) := by
  have n0 : 0 < n := by have := hn.1; omega
  cases r with
  | pair o =>
    have o0 : 0 < o := by have := h.1; omega
    exact ⟨⟨Int.emod_nonneg _ (by omega), Int.emod_lt_of_pos _ n0⟩, Int.emod_nonneg _ (by omega), Int.emod_lt_of_pos _ o0⟩
  | up _ => exact ⟨Int.emod_nonneg _ (by omega), Int.emod_lt_of_pos _ n0⟩
  | near => exact ⟨Int.emod_nonneg _ (by omega), Int.emod_lt_of_pos _ n0⟩
  | about _ => exact ⟨Int.emod_nonneg _ (by omega), Int.emod_lt_of_pos _ n0⟩
theorem sh1 (k : Str) (h : PyData.strOk k = true) : SeqAt.shaped (.tuple [.str k]) = true := by simp [SeqAt.shaped, PyData.canLay0, PyData.canLayAll0, PyData.depth, PyData.depthAll, h]
theorem sh3 (k : Str) (s t : Int) (h : PyData.strOk k = true) : SeqAt.shaped (.tuple [.str k, .int s, .int t]) = true := by simp [SeqAt.shaped, PyData.canLay0, PyData.canLayAll0, PyData.depth, PyData.depthAll, h]
theorem eq1 (k : Str) : PyData.eqv (.tuple [.str k]) (.tuple [.str "near"]) = decide (k = "near") := by
  have e : PyData.eqv (.tuple [.str k]) (.tuple [.str "near"]) = (k == ("near" : Str)) := by simp [PyData.eqv, PyData.eqvAll]
  rw [e]
  by_cases z : k = "near"
  · rw [z, decide_eq_true rfl]; decide
  · rw [decide_eq_false z]; exact beq_false_of_ne z
theorem eq3 (k : Str) (s t : Int) : PyData.eqv (.tuple [.str k, .int s, .int t]) (.tuple [.str "near"]) = false := by
  simp [PyData.eqv, PyData.eqvAll]
/-! ### the promises -/
def spIsNumber : Sp := fun vs H Q _ => ∃ n : Int, vs = [.int n] ∧ Q (.bl true) H
def spIsRule (K : PySem.W.Frag) : Sp := fun vs H Q _ => ∃ (n : Int) (a : Addr) (xs : List V), vs = [.int n, .ref a] ∧ H a = some (.tup xs) ∧ RulF xs ∧ ∀ H', Same H H' → Q (.bl (RulB n xs)) H'
def spCheckRule (K : PySem.W.Frag) (CW CR : Addr) : Sp := fun vs H Q E => ∃ (n : Int) (a : Addr) (xs : List V), vs = [.int n, .ref a] ∧ Sm n ∧ H a = some (.tup xs) ∧ RulF xs ∧
  (¬ Wh n → ∀ H', Same H H' → E (.ref CW) none H') ∧ (Wh n → RulB n xs = false → ∀ H', Same H H' → E (.ref CR) none H') ∧ (Wh n → RulB n xs = true → ∀ H', Same H H' → Q .non H')
def spCheckShown (K : PySem.W.Frag) (CS : Addr) : Sp := fun vs H Q E => ∃ (n : Int) (a : Addr) (r : Rul) (v : V) (s : Int × Int), vs = [.int n, .ref a, v] ∧ Sm n ∧ H a = some (.tup (rulT r)) ∧ RulOk n r ∧ SeenAt K H r v s ∧ Sm s.1 ∧ Sm s.2 ∧
  (¬ ShOk n r s → E (.ref CS) none H) ∧ (ShOk n r s → Q .non H)
/-- what is handed a wheel and a rule first -/
def RulIn (K : PySem.W.Frag) (CW CR : Addr) (n : Int) (a : Addr) (H : Hp) (E : XK) (k : Rul → Prop) : Prop := ∃ xs : List V, Sm n ∧ H a = some (.tup xs) ∧ RulF xs ∧
  (¬ Wh n → ∀ H', Same H H' → E (.ref CW) none H') ∧ (Wh n → RulB n xs = false → ∀ H', Same H H' → E (.ref CR) none H') ∧ (∀ r, Wh n → RulOk n r → xs = rulT r → k r)
theorem RulIn.ok {K : PySem.W.Frag} {CW CR : Addr} {n : Int} {a : Addr} {H : Hp} {E : XK} {k : Rul → Prop} {r : Rul} (h1 : Wh n) (h2 : RulOk n r) (h3 : H a = some (.tup (rulT r))) (h : k r) : RulIn K CW CR n a H E k :=
  ⟨rulT r, ⟨by have := h1.1; omega, by have := h1.2; omega⟩, h3, rulT_F r, fun z => absurd h1 z, fun _ z => absurd (rul_B h2) (by rw [z]; decide), fun s _ _ e => by rw [← rulT_inj e]; exact h⟩
def spBound (K : PySem.W.Frag) (CW CR : Addr) : Sp := fun vs H Q E => ∃ (n : Int) (a : Addr), vs = [.int n, .ref a] ∧ RulIn K CW CR n a H E fun r =>
  ∀ H' p, Same H H' → H p = none → H' p = some (.tup [.int (bd n r).1, .int (bd n r).2]) → Q (.ref p) H'
def spShown (K : PySem.W.Frag) (CW CR : Addr) : Sp := fun vs H Q E => ∃ (n : Int) (a : Addr) (t : Int), vs = [.int n, .ref a, .int t] ∧ RulIn K CW CR n a H E fun r =>
  ∀ H' v, Same H H' → SeenAt K H' r v (shS n r t) → Q v H'
def spLeast : Sp := fun vs H Q _ => ∃ n lo d : Int, vs = [.int n, .int lo, .int d] ∧ 0 < n ∧ Q (.int (lo + (d - lo) % n)) H
def spGapAbout (CN : Addr) : Sp := fun vs H Q E => ∃ n f d c : Int, vs = [.int n, .int f, .int d, .int c] ∧ 0 < n ∧ Sm c ∧ Sm d ∧
  (c - f + (d - (c - f)) % n ≤ c + f → Q (.int (c - f + (d - (c - f)) % n)) H) ∧ (c + f < c - f + (d - (c - f)) % n → E (.ref CN) none H)
/-- the greatest common divisor, and how many turns -/
def spCommon : Sp := fun vs H Q _ => ∃ n o : Int, vs = [.int n, .int o] ∧ Wh n ∧ Wh o ∧ ∀ (t : Int) (H' : Hp) (p : Addr), o ∣ (Int.gcd n o : Int) - t * n → Same H H' → H' p = some (.tup [.int (Int.gcd n o : Int), .int t]) → Q (.ref p) H'
def spGapPair (K : PySem.W.Frag) (CN : Addr) : Sp := fun vs H Q E => ∃ (n o : Int) (a b : Addr) (s e : Int × Int), vs = [.int n, .int o, .ref a, .ref b] ∧ Wh n ∧ Wh o ∧ SqT K H a [.int s.1, .int s.2] ∧ SqT K H b [.int e.1, .int e.2] ∧ ShOk n (.pair o) s ∧ ShOk n (.pair o) e ∧
  (∀ g, GapR n (.pair o) (e.1 - s.1, e.2 - s.2) 0 (some g) → ∀ H', Same H H' → Q (.int g) H') ∧ (GapR n (.pair o) (e.1 - s.1, e.2 - s.2) 0 none → ∀ H', Same H H' → E (.ref CN) none H')
def spGap (K : PySem.W.Frag) (CW CR CS CN : Addr) : Sp := fun vs H Q E => ∃ (n : Int) (a : Addr) (v1 v2 ab : V), vs = [.int n, .ref a, v1, v2, ab] ∧ RulIn K CW CR n a H E fun r =>
  ∃ s e : Int × Int, SeenAt K H r v1 s ∧ SeenAt K H r v2 e ∧ Sm s.1 ∧ Sm s.2 ∧ Sm e.1 ∧ Sm e.2 ∧ (¬ ShOk n r s → ∀ H', Same H H' → E (.ref CS) none H') ∧ (ShOk n r s → ¬ ShOk n r e → ∀ H', Same H H' → E (.ref CS) none H') ∧
  (ShOk n r s → ShOk n r e → ∃ c : Int, (∀ f, r = .about f → ab = .int c ∧ Sm c) ∧
    (∀ g, GapR n r (e.1 - s.1, e.2 - s.2) c (some g) → ∀ H', Same H H' → Q (.int g) H') ∧ (GapR n r (e.1 - s.1, e.2 - s.2) c none → ∀ H', Same H H' → E (.ref CN) none H'))
/-- what judged tells -/
def jud (n : Int) (r : Rul) (l m : Int) : List V := if l < (bd n r).1 then [.str "wrong", .int l] else if m ≤ (bd n r).2 then [.str "right"] else [.str "wrong", .int (if (bd n r).2 + 1 > l then (bd n r).2 + 1 else l)]
def spJudged (K : PySem.W.Frag) (CW CR CG : Addr) : Sp := fun vs H Q E => ∃ (n : Int) (a : Addr) (l m : Int), vs = [.int n, .ref a, .int l, .int m] ∧ Sm l ∧ Sm m ∧ RulIn K CW CR n a H E fun r =>
  (m < l → ∀ H', Same H H' → E (.ref CG) none H') ∧ (l ≤ m → ∀ H' p, Same H H' → H p = none → H' p = some (.tup (jud n r l m)) → Q (.ref p) H')
end Lx

namespace Lx
open PySem PySem.Spec PyProof.Rows L2 LamX NdefX
/-! ### where a lambda stands in the text -/
def retV : Stmt → Expr
  | .Return (some v) _ => v
  | _ => .Constant .none 0 ⟨0, 0, 0, 0⟩
def cmpL : Expr → Expr
  | .Compare a _ _ _ => a
  | e => e
/-! ### what the laws' helpers promise of rules -/
def spRule (K : PySem.W.Frag) : Sp := fun vs H Q _ => ∃ (S : Addr) (n : Int), vs = [.ref S, .int n] ∧ Wh n ∧ StAt K S H ∧
  ∀ (a : Addr) (r : Rul) (H' : Hp), RulOk n r → But S H H' → StAt K S H' → H' a = some (.tup (rulT r)) → Q (.ref a) H'
def spLawShown (K : PySem.W.Frag) : Sp := fun vs H Q _ => ∃ (n : Int) (a : Addr) (t : Int) (r : Rul), vs = [.int n, .ref a, .int t] ∧ Wh n ∧ RulOk n r ∧ H a = some (.tup (rulT r)) ∧
  ∀ H' v, Same H H' → SeenAt K H' r v (shS n r t) → Q v H'
def spLawBound (K : PySem.W.Frag) : Sp := fun vs H Q _ => ∃ (n : Int) (a : Addr) (r : Rul), vs = [.int n, .ref a] ∧ Wh n ∧ RulOk n r ∧ H a = some (.tup (rulT r)) ∧
  ∀ H' p, Same H H' → H p = none → H' p = some (.tup [.int (bd n r).1, .int (bd n r).2]) → Q (.ref p) H'
def Nb (v : Int) : Prop := -1000000000000000000000000000 ≤ v ∧ v ≤ 1000000000000000000000000000
def spNear (K : PySem.W.Frag) : Sp := fun vs H Q _ => ∃ (S : Addr) (n : Int) (a : Addr) (r : Rul), vs = [.ref S, .int n, .ref a] ∧ Wh n ∧ RulOk n r ∧ StAt K S H ∧ H a = some (.tup (rulT r)) ∧
  ∀ (v : Int) (H' : Hp), Nb v → But S H H' → StAt K S H' → Q (.int v) H'
def gapV : Option Int → V
  | some g => .int g
  | none => .str "NoGap"
def spIsGap (K : PySem.W.Frag) : Sp := fun vs H Q _ => ∃ (n : Int) (a : Addr) (r : Rul) (fv ab : V) (d : Int × Int) (c : Int) (out : Option Int), vs = [.int n, .ref a, fv, ab, gapV out] ∧ Wh n ∧ RulOk n r ∧ H a = some (.tup (rulT r)) ∧
  SeenAt K H r fv d ∧ (∀ f, r = .about f → ab = .int c) ∧ GapR n r d c out ∧ ∀ H', Same H H' → Q (.bl true) H'
theorem sqT_but {K : PySem.W.Frag} {S : Addr} {H H' : Hp} {p : Addr} {xs : List V} (st : StAt K S H) (b : But S H H') (h : SqT K H p xs) : SqT K H' p xs := by
  rcases h with (h | ⟨o, h⟩) | h
  · exact .inl (.inl (b _ _ (st.ne h fun _ z => by cases z) h))
  · exact .inl (.inr ⟨o, b _ _ (st.ne h fun _ z => by cases z) h⟩)
  · exact .inr h
theorem sqT_ext {K : PySem.W.Frag} {H H' : Hp} {p : Addr} {xs : List V} (x : ExtN H H') (h : SqT K H p xs) : SqT K H' p xs := by
  rcases h with (h | ⟨o, h⟩) | h
  · exact .inl (.inl (x _ _ h (fun _ z => by cases z)))
  · exact .inl (.inr ⟨o, x _ _ h (fun _ z => by cases z)⟩)
  · exact .inr h
theorem SeenAt.but {K : PySem.W.Frag} {S : Addr} {H H' : Hp} {r : Rul} {v : V} {s : Int × Int} (st : StAt K S H) (b : But S H H') (h : SeenAt K H r v s) : SeenAt K H' r v s := by
  cases r with
  | pair o => obtain ⟨p, e1, e2⟩ := h; exact ⟨p, e1, sqT_but st b e2⟩
  | up _ => exact h
  | near => exact h
  | about _ => exact h
theorem SeenAt.ext {K : PySem.W.Frag} {H H' : Hp} {r : Rul} {v : V} {s : Int × Int} (x : ExtN H H') (h : SeenAt K H r v s) : SeenAt K H' r v s := by
  cases r with
  | pair o => obtain ⟨p, e1, e2⟩ := h; exact ⟨p, e1, sqT_ext x e2⟩
  | up _ => exact h
  | near => exact h
  | about _ => exact h
theorem rule_but {K : PySem.W.Frag} {S a : Addr} {H H' : Hp} {xs : List V} (st : StAt K S H) (b : But S H H') (h : H a = some (.tup xs)) : H' a = some (.tup xs) := b _ _ (st.ne h fun _ z => by cases z) h
theorem rule_ext {a : Addr} {H H' : Hp} {xs : List V} (x : ExtN H H') (h : H a = some (.tup xs)) : H' a = some (.tup xs) := x _ _ h (fun _ z => by cases z)
/-! ### the mathematics -/
/-- the rests alone count -/
theorem gapR_of {n c : Int} {r : Rul} {d d' : Int × Int} (hr : ∀ o, r ≠ .pair o) (h : n ∣ d.1 - d'.1) : ∀ out, GapR n r d c out → GapR n r d' c out := by
  have f : ∀ g, Fits n r d g ↔ Fits n r d' g := by
    intro g
    have k : (n ∣ g - d.1) ↔ (n ∣ g - d'.1) := by
      constructor
      · intro z; have := Int.dvd_add z h; rwa [show g - d.1 + (d.1 - d'.1) = g - d'.1 by omega] at this
      · intro z; have := Int.dvd_sub z h; rwa [show g - d'.1 - (d.1 - d'.1) = g - d.1 by omega] at this
    cases r with
    | pair o => exact absurd rfl (hr o)
    | up l => exact k
    | near => exact k
    | about fo => exact k
  intro out z
  cases out with
  | some g => exact ⟨z.1, z.2.1, (f g).mp z.2.2⟩
  | none => exact fun g h1 h2 h3 => z g h1 h2 ((f g).mpr h3)
theorem sh_far {n t f : Int} : n ∣ (t + f) % n - t % n - f := by
  have h1 := Int.mul_ediv_add_emod (t + f) n
  have h2 := Int.mul_ediv_add_emod t n
  refine ⟨t / n - (t + f) / n, ?_⟩
  rw [Int.mul_sub]; omega

theorem bezout_nat : ∀ (m a b : Nat), b ≤ m → ∃ s t : Int, ((Nat.gcd a b : Nat) : Int) = s * a + t * b
  | 0, a, b, h => by
    obtain rfl : b = 0 := by omega
    exact ⟨1, 0, by simp⟩
  | m + 1, a, b, h => by
    by_cases z : b = 0
    · subst z; exact ⟨1, 0, by simp⟩
    · have lt : a % b < b := Nat.mod_lt _ (by omega)
      obtain ⟨s, t, e⟩ := bezout_nat m b (a % b) (by omega)
      refine ⟨t, s - t * ((a / b : Nat) : Int), ?_⟩
      rw [Nat.gcd_comm, Nat.gcd_rec, Nat.gcd_comm, e]
      have h2 := Nat.div_add_mod a b
      have h3 : ((a % b : Nat) : Int) = (a : Int) - (b : Int) * ((a / b : Nat) : Int) := by
        have : ((b * (a / b) + a % b : Nat) : Int) = (a : Int) := by rw [h2]
        rw [Int.natCast_add, Int.natCast_mul] at this
        omega
      rw [h3, Int.mul_sub, Int.sub_mul, Int.mul_assoc t, Int.mul_comm ((a / b : Nat) : Int)]
      omega
theorem bezout {n o : Int} (hn : 0 < n) (ho : 0 < o) : ∃ t, o ∣ (Int.gcd n o : Int) - t * n := by
  obtain ⟨s, t, e⟩ := bezout_nat o.natAbs n.natAbs o.natAbs (Nat.le_refl _)
  rw [Int.natAbs_of_nonneg (Int.le_of_lt hn), Int.natAbs_of_nonneg (Int.le_of_lt ho)] at e
  refine ⟨s, t, ?_⟩
  have : (Int.gcd n o : Int) = s * n + t * o := e
  rw [this, Int.mul_comm o t]
  omega
/-- a pair's gap is told just where the divisor allows it -/
theorem pair_some {n o c : Int} {d : Int × Int} (hn : Wh n) (ho : Wh o) {g : Int} (h : GapR n (.pair o) d c (some g)) : (d.2 - d.1) % (Int.gcd n o : Int) = 0 := by
  obtain ⟨_, _, h1, h2⟩ := h
  refine Int.emod_eq_zero_of_dvd ?_
  have h3 := Int.dvd_sub (Int.dvd_trans (Int.gcd_dvd_left n o) h1) (Int.dvd_trans (Int.gcd_dvd_right n o) h2)
  rwa [show g - d.1 - (g - d.2) = d.2 - d.1 by omega] at h3
theorem pair_none {n o c : Int} {d : Int × Int} (hn : Wh n) (ho : Wh o) (h : GapR n (.pair o) d c none) : (d.2 - d.1) % (Int.gcd n o : Int) ≠ 0 := by
  intro z
  have np : 0 < n := by have := hn.1; omega
  have op : 0 < o := by have := ho.1; omega
  obtain ⟨t, ht⟩ := bezout np op
  have gn := Int.gcd_dvd_left n o
  have e : (d.2 - d.1 % n) % (Int.gcd n o : Int) = 0 := by
    refine Int.emod_eq_zero_of_dvd ?_
    have h3 : n ∣ d.1 - d.1 % n := by
      have := Int.mul_ediv_add_emod d.1 n
      exact ⟨d.1 / n, by omega⟩
    have h4 := Int.dvd_add (Int.dvd_of_emod_eq_zero z) (Int.dvd_trans gn h3)
    rwa [show d.2 - d.1 + (d.1 - d.1 % n) = d.2 - d.1 % n by omega] at h4
  have k := gap_pair (c := c) (d := d) np op rfl ht e rfl
  exact h _ k.1 k.2.1 k.2.2
theorem mod_of_dvd {m a b : Int} (h : m ∣ a - b) : a % m = b % m := by
  exact Int.emod_eq_emod_iff_emod_sub_eq_zero.mpr (Int.emod_eq_zero_of_dvd h)
theorem dvd_of_mod {m a b : Int} (h : a % m = b % m) : m ∣ a - b := Int.dvd_of_emod_eq_zero (Int.emod_eq_emod_iff_emod_sub_eq_zero.mp h)
/-- the least one, with d itself -/
theorem least_from2 {n lo d : Int} (hn : 0 < n) : n ∣ lo + (d - lo) % n - d ∧ lo ≤ lo + (d - lo) % n ∧ lo + (d - lo) % n < lo + n := by
  have h := least_from (n := n) (lo := lo) (d := d) hn
  rwa [show (d % n - lo) % n = (d - lo) % n from Int.emod_sub_emod d n lo] at h
theorem some_lo {n c g lo : Int} {r : Rul} {d : Int × Int} (hn : Wh n) (ok : RulOk n r) (hr : ∀ o, r ≠ .pair o) (e : lo = (gd n r c).1) (h : GapR n r d c (some g)) : g = lo + (d.1 - lo) % n := by
  obtain ⟨h1, h2, h3⟩ := h
  have np : 0 < n := by have := hn.1; omega
  obtain ⟨k1, k2, k3⟩ := least_from2 (n := n) (lo := lo) (d := d.1) np
  have w := gd_wide (c := c) hn ok
  have f3 : n ∣ g - d.1 := by
    cases r with
    | pair o => exact absurd rfl (hr o)
    | up l => exact h3
    | near => exact h3
    | about f => exact h3
  have w2 : (gd n r c).2 - (gd n r c).1 < n := by
    cases r with
    | pair o => exact absurd rfl (hr o)
    | up l => exact w
    | near => exact w
    | about f => exact w
  have := dvd_small (dvd_sub3 f3 k1) (by omega) (by omega)
  omega
theorem none_no {n c : Int} {r : Rul} {d : Int × Int} (hn : Wh n) (hr : (∀ o, r ≠ .pair o) ∧ (∀ f, r ≠ .about f)) (h : GapR n r d c none) : False := by
  have k := gap_up (c := c) (d := d) hn hr rfl
  exact h _ k.1 k.2.1 k.2.2
theorem about_some {n c f g : Int} {d : Int × Int} (hn : Wh n) (ok : RulOk n (.about f)) (h : GapR n (.about f) d c (some g)) : (d.1 - (c - f)) % n ≤ c + f - (c - f) := by
  have e := some_lo hn ok (fun _ z => nomatch z) rfl h
  have h2 : g ≤ c + f := h.2.1
  have e : g = c - f + (d.1 - (c - f)) % n := e
  omega
theorem about_none {n c f : Int} {d : Int × Int} (hn : Wh n) (h : GapR n (.about f) d c none) : c + f - (c - f) < (d.1 - (c - f)) % n := by
  rcases Int.lt_or_le (c + f - (c - f)) ((d.1 - (c - f)) % n) with z | z
  · exact z
  · have np : 0 < n := by have := hn.1; omega
    obtain ⟨k1, k2, k3⟩ := least_from2 (n := n) (lo := c - f) (d := d.1) np
    exact absurd k1 (h _ (show c - f ≤ _ from k2) (show _ ≤ c + f by omega))
/-- told right just within the bounds -/
theorem told_right {n c fa g : Int} {r : Rul} {d : Int × Int} (hn : Wh n) (ok : RulOk n r) (h : GapR n r d c (some g)) (hf : Fits n r d fa) : g = fa ↔ (gd n r c).1 ≤ fa ∧ fa ≤ (gd n r c).2 :=
  ⟨fun z => by subst z; exact ⟨h.1, h.2.1⟩, fun z => gap_one hn ok h.1 h.2.1 h.2.2 z.1 z.2 hf⟩
theorem told_none {n c fa : Int} {r : Rul} {d : Int × Int} (h : GapR n r d c none) (hf : Fits n r d fa) : ¬ ((gd n r c).1 ≤ fa ∧ fa ≤ (gd n r c).2) := fun z => h fa z.1 z.2 hf
/-- refused of about alone -/
theorem none_about {n c fa : Int} {r : Rul} {d : Int × Int} (hn : Wh n) (ok : RulOk n r) (h : GapR n r d c none) (hf : Fits n r d fa) : ∃ f, r = .about f := by
  cases r with
  | about f => exact ⟨f, rfl⟩
  | up l => exact (none_no (r := .up l) hn ⟨fun _ z => (nomatch z), fun _ z => (nomatch z)⟩ h).elim
  | near => exact (none_no (r := .near) hn ⟨fun _ z => (nomatch z), fun _ z => (nomatch z)⟩ h).elim
  | pair o =>
    refine absurd (Int.emod_eq_zero_of_dvd ?_) (pair_none hn ok h)
    have h3 := Int.dvd_sub (Int.dvd_trans (Int.gcd_dvd_left n o) hf.1) (Int.dvd_trans (Int.gcd_dvd_right n o) hf.2)
    rwa [show fa - d.1 - (fa - d.2) = d.2 - d.1 by omega] at h3
theorem sh_far' {n t f : Int} : n ∣ f - ((t + f) % n - t % n) := by
  have h := Int.dvd_neg.mpr (sh_far (n := n) (t := t) (f := f))
  rwa [show -((t + f) % n - t % n - f) = f - ((t + f) % n - t % n) by omega] at h
/-- what is shown of two times has the rests -/
theorem sh_fits {n t f : Int} {r : Rul} : Fits n r ((shS n r (t + f)).1 - (shS n r t).1, (shS n r (t + f)).2 - (shS n r t).2) f := by
  cases r with
  | up l => exact sh_far'
  | near => exact sh_far'
  | about o => exact sh_far'
  | pair o => exact ⟨sh_far', sh_far'⟩
theorem shok_sm {n : Int} {r : Rul} {s : Int} (hn : Wh n) (ok : RulOk n r) : Sm (shS n r s).1 ∧ Sm (shS n r s).2 := by
  have h := sh_ok (t := s) hn ok
  obtain ⟨n1, n2⟩ := id hn
  cases r with
  | pair o =>
    obtain ⟨o1, o2⟩ : Wh o := ok
    obtain ⟨⟨a0, a1⟩, ⟨a2, a3⟩⟩ := h
    exact ⟨⟨by omega, by omega⟩, ⟨by omega, by omega⟩⟩
  | up l => obtain ⟨a0, a1⟩ := h; exact ⟨⟨by omega, by omega⟩, ⟨by show _ < (0 : Int); decide, by show (0 : Int) < _; decide⟩⟩
  | near => obtain ⟨a0, a1⟩ := h; exact ⟨⟨by omega, by omega⟩, ⟨by show _ < (0 : Int); decide, by show (0 : Int) < _; decide⟩⟩
  | about f => obtain ⟨a0, a1⟩ := h; exact ⟨⟨by omega, by omega⟩, ⟨by show _ < (0 : Int); decide, by show (0 : Int) < _; decide⟩⟩
theorem lcm_le {n o : Int} (hn : Wh n) (ho : Wh o) : 0 < lcmI n o ∧ lcmI n o ≤ 1000000000000000000000000 := by
  have np : 0 < n := by have := hn.1; omega
  have op : 0 < o := by have := ho.1; omega
  refine ⟨lcm_pos np op, ?_⟩
  have h := lcm_gcd np op
  have g1 := gcd_pos (b := o) np
  have h2 : 1 * lcmI n o ≤ (Int.gcd n o : Int) * lcmI n o := Int.mul_le_mul_of_nonneg_right (by omega) (Int.le_of_lt (lcm_pos np op))
  have h3 : n * o ≤ 1000000000000 * o := Int.mul_le_mul_of_nonneg_right hn.2 (Int.le_of_lt op)
  have h4 := ho.2
  omega
theorem bd_sm {n : Int} {r : Rul} (hn : Wh n) (ok : RulOk n r) : -1000000000000 ≤ (bd n r).1 ∧ (bd n r).1 ≤ (bd n r).2 ∧ (bd n r).2 ≤ 1000000000000000000000000 := by
  obtain ⟨h1, h2⟩ := id hn
  cases r with
  | up l =>
    obtain ⟨h3, h4⟩ : 0 ≤ l ∧ l ≤ 1000000000000 := ok
    refine ⟨?_, ?_, ?_⟩ <;> simp only [bd] <;> omega
  | near => refine ⟨?_, ?_, ?_⟩ <;> simp only [bd] <;> omega
  | pair o =>
    have := lcm_le hn ok
    refine ⟨?_, ?_, ?_⟩ <;> simp only [bd] <;> omega
  | about f =>
    obtain ⟨h3, h4⟩ : 0 ≤ f ∧ 2 * f < n := ok
    refine ⟨?_, ?_, ?_⟩ <;> simp only [bd] <;> omega
theorem mul_div_lcm {n o : Int} (hn : 0 < n) (ho : 0 < o) : n * o / (Int.gcd n o : Int) = lcmI n o ∧ n * o / lcmI n o = (Int.gcd n o : Int) := by
  have h := lcm_gcd hn ho
  have g1 := gcd_pos (b := o) hn
  have l1 := lcm_pos hn ho
  exact ⟨by rw [h]; exact Int.mul_ediv_cancel_left _ (by omega), by rw [h]; exact Int.mul_ediv_cancel _ (by omega)⟩
end Lx

namespace Lx
open PySem PySem.Spec PyProof.Rows L2 LamX NdefX
/-! ### lists of numbers, compared -/
theorem lay_ints : ∀ ns : List Int, PyData.canLayAll0 (ns.map PyData.int) = true
  | [] => by simp [PyData.canLayAll0]
  | n :: r => by simp [PyData.canLayAll0, PyData.canLay0]; exact lay_ints r
theorem depth_ints : ∀ ns : List Int, PyData.depthAll (ns.map PyData.int) = 0
  | [] => by simp [PyData.depthAll]
  | n :: r => by simp [PyData.depthAll, PyData.depth]; exact depth_ints r
theorem shaped_ints (ns : List Int) : SeqAt.shaped (.list (ns.map PyData.int)) = true := by
  simp [SeqAt.shaped, PyData.canLay0, PyData.depth, lay_ints, depth_ints]
theorem eqv_ints : ∀ ns : List Int, PyData.eqvAll (ns.map PyData.int) (ns.map PyData.int) = true
  | [] => by simp [PyData.eqvAll]
  | n :: r => by simp [PyData.eqvAll, PyData.eqv]; exact eqv_ints r
theorem eqv_list (ns : List Int) : PyData.eqv (.list (ns.map PyData.int)) (.list (ns.map PyData.int)) = true := by
  simp [PyData.eqv]; exact eqv_ints ns
theorem dpAll_ints {K : PySem.W.Frag} {H : Hp} : ∀ ns : List Int, DpAll K H (ns.map V.int) (ns.map PyData.int)
  | [] => .nil
  | n :: r => .cons (.int n) (dpAll_ints r)
/-- xs != ys of two lists of the same numbers -/
theorem ne_ints {K : PySem.W.Frag} {H : Hp} {a b : Addr} {ns : List Int} {Q : VK} (ha : SqL K H a (ns.map V.int)) (hb : SqL K H b (ns.map V.int)) (q : Q (.bl false) H) : rNeD K (.ref a) (.ref b) H Q := by
  refine ⟨_, _, .lst ha (dpAll_ints ns), .lst hb (dpAll_ints ns), shaped_ints ns, shaped_ints ns, ?_⟩
  rw [eqv_list]
  exact q
/-- the first place at which f -/
def firstP (f : Nat → Bool) : Nat → Option Nat
  | 0 => none
  | i + 1 => match firstP f i with
    | some p => some p
    | none => if f i = true then some i else none
theorem firstP_lt {f : Nat → Bool} : ∀ {i p : Nat}, firstP f i = some p → p < i ∧ f p = true
  | 0, _, h => nomatch h
  | i + 1, p, h => by
    unfold firstP at h
    cases e : firstP f i with
    | some q =>
      rw [e] at h
      have h := Option.some.inj h
      subst h
      have := firstP_lt e
      exact ⟨by omega, this.2⟩
    | none =>
      rw [e] at h
      simp only at h
      split at h
      · rename_i y
        have h := Option.some.inj h
        subst h
        exact ⟨by omega, y⟩
      · cases h
theorem firstP_of {f : Nat → Bool} : ∀ {i p : Nat}, p < i → f p = true → (∀ q, q < p → f q = false) → firstP f i = some p
  | 0, _, h, _, _ => absurd h (by omega)
  | i + 1, p, h, y, no => by
    unfold firstP
    by_cases z : p = i
    · subst z
      have e : firstP f p = none := by
        cases e : firstP f p with
        | none => rfl
        | some q =>
          have h := firstP_lt e
          rw [no q h.1] at h
          cases h.2
      rw [e, if_pos y]
    · rw [firstP_of (by omega) y no]
theorem firstP_no {f : Nat → Bool} : ∀ {i : Nat}, (∀ q, q < i → f q = false) → firstP f i = none
  | 0, _ => rfl
  | i + 1, no => by
    unfold firstP
    rw [firstP_no (i := i) fun q h => no q (by omega), if_neg (by rw [no i (by omega)]; decide)]
/-! ### rings -/
def isAh (n a b : Int) : Bool := decide (0 < (b - a) % n ∧ (b - a) % n < (n + 1) / 2)
def spIsAhead : Sp := fun vs H Q _ => ∃ n a b : Int, vs = [.int n, .int a, .int b] ∧ Wh n ∧ Q (.bl (isAh n a b)) H
/-- the three at a place are a ring -/
def Rg (n : Int) (ns : List Int) (p : Nat) : Bool :=
  isAh n (ns.getD (p / (ns.length * ns.length)) 0) (ns.getD (p / ns.length % ns.length) 0) && isAh n (ns.getD (p / ns.length % ns.length) 0) (ns.getD (p % ns.length) 0) && isAh n (ns.getD (p % ns.length) 0) (ns.getD (p / (ns.length * ns.length)) 0)
def threeV (m p : Nat) : List V := [.int ((p / (m * m) : Nat) : Int), .int ((p / m % m : Nat) : Int), .int ((p % m : Nat) : Int)]
def spRing (K : PySem.W.Frag) (CW CS : Addr) : Sp := fun vs H Q E => ∃ (n : Int) (a : Addr) (ns : List Int), vs = [.int n, .ref a] ∧ SqL K H a (ns.map V.int) ∧ Sm n ∧ ns.length ≤ 1000 ∧ (∀ x ∈ ns, Sm x) ∧
  (¬ Wh n → ∀ H', Same H H' → E (.ref CW) none H') ∧ (Wh n → (60 < ns.length ∨ ∃ x ∈ ns, ¬ Sn n x) → ∀ H', Same H H' → E (.ref CS) none H') ∧
  (Wh n → ns.length ≤ 60 → (∀ x ∈ ns, Sn n x) → (firstP (Rg n ns) (ns.length * ns.length * ns.length) = none → ∀ H', Same H H' → Q .non H') ∧
    (∀ p, firstP (Rg n ns) (ns.length * ns.length * ns.length) = some p → ∀ H' t, Same H H' → H t = none → H' t = some (.tup (threeV ns.length p)) → Q (.ref t) H'))
/-- the place found, if one is -/
def DueAt (H : Hp) (m : Nat) (v : V) : Option Nat → Prop
  | none => v = .non
  | some p => ∃ t, v = .ref t ∧ H t = some (.tup (threeV m p))
theorem DueAt.same {H H' : Hp} {m : Nat} {v : V} {o : Option Nat} (s : Same H H') (h : DueAt H m v o) : DueAt H' m v o := by
  cases o with
  | none => exact h
  | some p => obtain ⟨t, e1, e2⟩ := h; exact ⟨t, e1, s _ _ e2⟩
theorem at_ints {ns : List Int} {i : Nat} (h : i < ns.length) : atI (ns.map V.int) (i : Int) = some (.int (ns.getD i 0)) := by
  refine atI_nat ?_
  rw [List.getElem?_map, List.getElem?_eq_getElem h, List.getD_eq_getElem?_getD, List.getElem?_eq_getElem h]
  rfl
theorem three_lt {m i : Nat} (h : i < m * m * m) : i / (m * m) < m ∧ i / m % m < m ∧ i % m < m := by
  have mp : 0 < m := by
    rcases Nat.eq_zero_or_pos m with z | z
    · subst z; exact absurd h (by omega)
    · exact z
  exact ⟨Nat.div_lt_of_lt_mul h, Nat.mod_lt _ mp, Nat.mod_lt _ mp⟩
theorem three_int {m i : Nat} : [V.int ((0 + (i : Int)) / ((m : Int) * (m : Int))), V.int ((0 + (i : Int)) / (m : Int) % (m : Int)), V.int ((0 + (i : Int)) % (m : Int))] = threeV m i := by
  unfold threeV
  rw [Int.zero_add, Int.natCast_ediv, Int.natCast_mul, Int.natCast_emod, Int.natCast_ediv, Int.natCast_emod]
end Lx

namespace Lx
open PySem PySem.Spec PyProof.Rows L2 LamX NdefX
/-! ### timers -/
def Lg (n l : Int) : Prop := 0 ≤ l ∧ l < n
def riseB : Int → List Int → Bool
  | _, [] => true
  | p, x :: r => decide (p ≤ x) && riseB x r
def overB (n l b w : Int) : Bool := decide (l ≤ (w - b) % n)
def placeV : Option Nat → V
  | none => .non
  | some p => .int (p : Int)
def foP (n l : Int) (ns : List Int) : Option Nat := firstP (fun i => decide (l ≤ ns.getD i 0 % n)) ns.length
def spApart (CW CL : Addr) : Sp := fun vs H Q E => ∃ n l : Int, vs = [.int n, .int l] ∧ Sm n ∧ Sm l ∧
  (¬ Wh n → ∀ H', Same H H' → E (.ref CW) none H') ∧ (Wh n → ¬ Lg n l → ∀ H', Same H H' → E (.ref CL) none H') ∧ (Wh n → Lg n l → ∀ H', Same H H' → Q (.int (n - l)) H')
def spOver (CW CL CS : Addr) : Sp := fun vs H Q E => ∃ n l b w : Int, vs = [.int n, .int l, .int b, .int w] ∧ Sm n ∧ Sm l ∧ Sm b ∧ Sm w ∧
  (¬ Wh n → ∀ H', Same H H' → E (.ref CW) none H') ∧ (Wh n → ¬ Lg n l → ∀ H', Same H H' → E (.ref CL) none H') ∧ (Wh n → Lg n l → ¬ Sn n b → ∀ H', Same H H' → E (.ref CS) none H') ∧
  (Wh n → Lg n l → Sn n b → ¬ Sn n w → ∀ H', Same H H' → E (.ref CS) none H') ∧ (Wh n → Lg n l → Sn n b → Sn n w → ∀ H', Same H H' → Q (.bl (overB n l b w)) H')
def spFirstOver (K : PySem.W.Frag) (CW CL CG : Addr) : Sp := fun vs H Q E => ∃ (n l : Int) (a : Addr) (ns : List Int), vs = [.int n, .int l, .ref a] ∧ Sm n ∧ Sm l ∧ SqL K H a (ns.map V.int) ∧ ns.length ≤ 1000 ∧ (∀ x ∈ ns, Sm x) ∧
  (¬ Wh n → ∀ H', Same H H' → E (.ref CW) none H') ∧ (Wh n → ¬ Lg n l → ∀ H', Same H H' → E (.ref CL) none H') ∧ (Wh n → Lg n l → riseB 0 ns = false → ∀ H', Same H H' → E (.ref CG) none H') ∧
  (Wh n → Lg n l → riseB 0 ns = true → ∀ H', Same H H' → Q (placeV (foP n l ns)) H')
/-! ### looks not far apart -/
def Stp (most : Int) : Int → List Int → Prop
  | _, [] => True
  | p, x :: r => p ≤ x ∧ x ≤ p + most ∧ Stp most x r
def lastL : Int → List Int → Int
  | p, [] => p
  | _, x :: r => lastL x r
theorem stp_app {most : Int} : ∀ {ns : List Int} {p x : Int}, Stp most p ns → lastL p ns ≤ x → x ≤ lastL p ns + most → Stp most p (ns ++ [x])
  | [], p, x, _, h1, h2 => ⟨h1, h2, trivial⟩
  | y :: r, p, x, h, h1, h2 => ⟨h.1, h.2.1, stp_app (ns := r) h.2.2 h1 h2⟩
theorem last_app : ∀ {ns : List Int} {p x : Int}, lastL p (ns ++ [x]) = x
  | [], _, _ => rfl
  | y :: r, _, x => last_app (ns := r) (p := y)
def prevL (p : Int) (ns : List Int) : Nat → Int
  | 0 => p
  | k + 1 => ns.getD k 0
theorem stp_at {most : Int} : ∀ {ns : List Int} {p : Int}, Stp most p ns → ∀ k, k < ns.length → p ≤ ns.getD k 0 ∧ prevL p ns k ≤ ns.getD k 0 ∧ ns.getD k 0 ≤ prevL p ns k + most
  | [], _, _, k, h => absurd h (by simp)
  | y :: r, p, h, 0, _ => ⟨h.1, h.1, h.2.1⟩
  | y :: r, p, h, k + 1, hk => by
    have ih := stp_at (ns := r) h.2.2 k (by simpa using hk)
    have e : (y :: r).getD (k + 1) 0 = r.getD k 0 := rfl
    have e2 : prevL p (y :: r) (k + 1) = prevL y r k := by cases k <;> rfl
    rw [e, e2]
    have := h.1
    exact ⟨by omega, ih.2.1, ih.2.2⟩
theorem stp_rise {most : Int} : ∀ {ns : List Int} {p : Int}, Stp most p ns → riseB p ns = true
  | [], _, _ => rfl
  | y :: r, p, h => by
    unfold riseB
    rw [decide_eq_true h.1, stp_rise h.2.2]; rfl
theorem stp_top {most : Int} (hm : 0 ≤ most) : ∀ {ns : List Int} {p : Int}, Stp most p ns → ∀ x ∈ ns, p ≤ x ∧ x ≤ p + most * ns.length
  | [], _, _, x, h => nomatch h
  | y :: r, p, h, x, hx => by
    have e : (((y :: r).length : Nat) : Int) = (r.length : Int) + 1 := by simp
    rw [e, Int.mul_add, Int.mul_one]
    have h1 := h.1
    have h2 := h.2.1
    have h3 : 0 ≤ most * (r.length : Int) := Int.mul_nonneg hm (by omega)
    rcases List.mem_cons.mp hx with rfl | hx
    · exact ⟨h1, by omega⟩
    · have ih := stp_top hm h.2.2 x hx
      exact ⟨by omega, by omega⟩
/-- the rest tells as the look itself, up to the first one that is over -/
theorem over_rest {n l : Int} {ns : List Int} (hn : 0 < n) (hl : Lg n l) (h : Stp (n - l) 0 ns) {k : Nat} (hk : k < ns.length) (before : ∀ j, j < k → ns.getD j 0 < l) : (l ≤ ns.getD k 0 % n ↔ l ≤ ns.getD k 0) := by
  obtain ⟨h1, h2, h3⟩ := stp_at h k hk
  obtain ⟨l0, l1⟩ := hl
  have r0 := Int.emod_nonneg (ns.getD k 0) (show n ≠ 0 by omega)
  by_cases z : l = 0
  · subst z; exact ⟨fun _ => h1, fun _ => r0⟩
  · have p : prevL 0 ns k < l := by
      cases k with
      | zero => show (0 : Int) < l; omega
      | succ k => exact before k (by omega)
    rw [Int.emod_eq_of_lt h1 (by omega)]
theorem firstP_congr {f g : Nat → Bool} : ∀ {i : Nat}, (∀ k, k < i → (∀ j, j < k → g j = false) → f k = g k) → firstP f i = firstP g i
  | 0, _ => rfl
  | i + 1, h => by
    have ih : firstP f i = firstP g i := firstP_congr fun k hk => h k (by omega)
    unfold firstP
    rw [ih]
    cases e : firstP g i with
    | some p => rfl
    | none =>
      have no : ∀ j, j < i → g j = false := fun j hj => by
        cases eg : g j with
        | false => rfl
        | true =>
          -- the least such place would have been found
          have : ∃ p, firstP g i = some p := by
            clear h ih
            induction i with
            | zero => exact absurd hj (by omega)
            | succ i ih =>
              unfold firstP
              cases e2 : firstP g i with
              | some p => exact ⟨p, rfl⟩
              | none =>
                unfold firstP at e
                rw [e2] at e
                by_cases z : j < i
                · obtain ⟨p, hp⟩ := ih e2 z
                  rw [e2] at hp; cases hp
                · have : j = i := by omega
                  subst this
                  exact ⟨j, by simp only; rw [if_pos eg]⟩
          obtain ⟨p, hp⟩ := this
          rw [e] at hp; cases hp
      rw [h i (by omega) no]
theorem fo_plain {n l : Int} {ns : List Int} (hn : 0 < n) (hl : Lg n l) (h : Stp (n - l) 0 ns) : foP n l ns = firstP (fun i => decide (l ≤ ns.getD i 0)) ns.length := by
  refine firstP_congr fun k hk no => ?_
  have := over_rest hn hl h hk fun j hj => by
    have := of_decide_eq_false (no j hj)
    omega
  exact decide_eq_decide.mpr this
theorem eqv_nil (ns : List Int) : PyData.eqv (.list (ns.map PyData.int)) (.list []) = decide (ns = []) := by
  cases ns with
  | nil => simp [PyData.eqv, PyData.eqvAll]
  | cons x r => simp [PyData.eqv, PyData.eqvAll]
/-- xs == [] of a list of numbers -/
theorem eq_nil {K : PySem.W.Frag} {H : Hp} {a b : Addr} {ns : List Int} {Q : VK} (ha : SqL K H a (ns.map V.int)) (hb : SqL K H b []) (q : Q (.bl (decide (ns = []))) H) : rEqD K (.ref a) (.ref b) H Q := by
  refine ⟨_, _, .lst ha (dpAll_ints ns), .lst hb .nil, shaped_ints ns, shaped_ints [], ?_⟩
  rw [eqv_nil]
  exact q
def spLooks (K : PySem.W.Frag) : Sp := fun vs H Q _ => ∃ (S : Addr) (most goal : Int), vs = [.ref S, .int most, .int goal] ∧ StAt K S H ∧ 0 < most ∧ most ≤ 1000000000000 ∧
  ∀ (D : Addr) (ns : List Int) (H' : Hp), Stp most 0 ns → ns.length ≤ 61 → But S H H' → StAt K S H' → H D = none → H' D = some (.lst (ns.map V.int)) → Q (.ref D) H'
theorem firstP_none {f : Nat → Bool} : ∀ {i : Nat}, firstP f i = none → ∀ j, j < i → f j = false
  | 0, _, j, h => absurd h (by omega)
  | i + 1, e, j, h => by
    unfold firstP at e
    cases e2 : firstP f i with
    | some p => rw [e2] at e; cases e
    | none =>
      rw [e2] at e
      simp only at e
      split at e
      · cases e
      · rename_i z
        by_cases y : j < i
        · exact firstP_none e2 j y
        · have : j = i := by omega
          subst this
          cases w : f j with
          | false => rfl
          | true => exact absurd w z
theorem firstP_min {f : Nat → Bool} : ∀ {i p : Nat}, firstP f i = some p → ∀ j, j < p → f j = false
  | 0, _, e, _, _ => nomatch e
  | i + 1, p, e, j, h => by
    unfold firstP at e
    cases e2 : firstP f i with
    | some q =>
      rw [e2] at e
      have e := Option.some.inj e
      subst e
      exact firstP_min e2 j h
    | none =>
      rw [e2] at e
      simp only at e
      split at e
      · have e := Option.some.inj e
        subst e
        exact firstP_none e2 j h
      · cases e
theorem stp_app2 {most : Int} {ns : List Int} {x y : Int} (h : Stp most 0 ns) (h1 : lastL 0 ns ≤ x) (h2 : x ≤ lastL 0 ns + most) (h3 : x ≤ y) (h4 : y ≤ x + most) : Stp most 0 (ns ++ [x, y]) := by
  have e : ns ++ [x, y] = (ns ++ [x]) ++ [y] := by simp
  rw [e]
  exact stp_app (stp_app h h1 h2) (by rw [last_app]; exact h3) (by rw [last_app]; exact h4)
/-- no look is over -/
theorem fo_none {n l : Int} {ns : List Int} (h : ∀ x ∈ ns, x % n < l) : foP n l ns = none := by
  refine firstP_no fun q hq => decide_eq_false fun z => ?_
  have hm : ns.getD q 0 ∈ ns := by
    rw [List.getD_eq_getElem?_getD, List.getElem?_eq_getElem hq]
    exact List.getElem_mem hq
  have := h _ hm
  omega
/-- a list of places, whose first one is told -/
def HeadAt : Option Nat → List V → Prop
  | none, acc => acc = []
  | some p, acc => ∃ r, acc = .int (p : Int) :: r
theorem head_no {f : Nat → Bool} {i : Nat} {acc : List V} (h : HeadAt (firstP f i) acc) (e : f i = false) : HeadAt (firstP f (i + 1)) acc := by
  unfold firstP
  cases ef : firstP f i with
  | some p => rw [ef] at h; exact h
  | none => rw [ef] at h; simp only; rw [e]; exact h
theorem head_yes {f : Nat → Bool} {i : Nat} {acc : List V} (h : HeadAt (firstP f i) acc) (e : f i = true) : HeadAt (firstP f (i + 1)) (acc ++ [.int (i : Int)]) := by
  unfold firstP
  cases ef : firstP f i with
  | some p => rw [ef] at h; obtain ⟨r, rfl⟩ := h; exact ⟨r ++ [.int (i : Int)], rfl⟩
  | none => rw [ef] at h; simp only; rw [e]; obtain rfl : acc = [] := h; exact ⟨[], rfl⟩
/-- the first of xs + [v] -/
theorem head_at {o : Option Nat} {acc : List V} {v : V} (h : HeadAt o acc) : atI (acc ++ [v]) 0 = some (match o with | none => v | some p => .int (p : Int)) := by
  cases o with
  | none => obtain rfl : acc = [] := h; rfl
  | some p => obtain ⟨r, rfl⟩ := h; exact atI_nat (j := 0) rfl
theorem head_atP {o : Option Nat} {acc : List V} (h : HeadAt o acc) : atI (acc ++ [.non]) 0 = some (placeV o) := by
  have := head_at (v := .non) h
  cases o <;> exact this
theorem placeV_flat (o : Option Nat) : flatV (placeV o) = true := by cases o <;> rfl
end Lx

namespace Lx
open PySem PySem.Spec PyProof.Rows L2 LamX NdefX
theorem last_init : ∀ (ns : List Int) (p : Int), ∃ xs : List V, V.int p :: ns.map V.int = xs ++ [V.int (lastL p ns)]
  | [], p => ⟨[], rfl⟩
  | y :: r, p => by
    obtain ⟨xs, e⟩ := last_init r y
    exact ⟨V.int p :: xs, by rw [List.map_cons, e]; rfl⟩
theorem at_lastL (ns : List Int) (p : Int) : atI (V.int p :: ns.map V.int) (-1) = some (.int (lastL p ns)) := by
  obtain ⟨xs, e⟩ := last_init ns p
  rw [e]
  exact atI_last xs _
theorem rise_app : ∀ (ns : List Int) (p x : Int), riseB p (ns ++ [x]) = (riseB p ns && decide (lastL p ns ≤ x))
  | [], p, x => by
    show (decide (p ≤ x) && true) = (true && decide (p ≤ x))
    rw [Bool.and_true, Bool.true_and]
  | y :: r, p, x => by
    show (decide (p ≤ y) && riseB y (r ++ [x])) = (decide (p ≤ y) && riseB y r && decide (lastL y r ≤ x))
    rw [rise_app r y x, Bool.and_assoc]
theorem rise_last : ∀ (ns : List Int) (p : Int), riseB p ns = true → p ≤ lastL p ns
  | [], p, _ => Int.le_refl p
  | y :: r, p, h => by
    have h : (decide (p ≤ y) && riseB y r) = true := h
    rw [Bool.and_eq_true] at h
    have h1 : p ≤ y := of_decide_eq_true h.1
    have := rise_last r y h.2
    show p ≤ lastL y r
    omega
/-- a number below nought behind them: they fall -/
theorem rise_neg (ns : List Int) (x : Int) (h : x < 0) : riseB 0 (ns ++ [x]) = false := by
  rw [rise_app]
  cases e : riseB 0 ns with
  | false => rfl
  | true =>
    have := rise_last ns 0 e
    rw [decide_eq_false (by omega)]
    rfl
theorem LmAt.but {K : PySem.W.Frag} {S : Addr} {H H' : Hp} {f : Addr} {F : NF} {eb : Expr} (l : LmAt H f F eb) (b : But S H H') (st : StAt K S H) : LmAt H' f F eb :=
  ⟨b _ _ (st.ne l.1 fun _ z => by unfold LmO at z; cases z) l.1, b _ _ (st.ne l.2 fun _ z => by unfold CodeO at z; cases z) l.2⟩
theorem mod_div {x n : Int} : x - x / n * n = x % n := by
  rw [Int.emod_def, Int.mul_comm]
theorem over_turn {n b w : Int} : (w + n - b) % n = (w - b) % n := by
  rw [show w + n - b = w - b + n by omega, Int.add_emod_right]
/-- as StAt.lay, of the script's name alone -/
theorem StAt.lay2 {K : PySem.W.Frag} {S D : Addr} {G H : Hp} {o : HO} (g : StAt K S G) (n : G D = none) (b : ∀ a, Scr G S a → Scr H S a) (s : StAt K S H) (nS : D ≠ S) : StAt K S (upd H D o) := by
  obtain ⟨a, ns, i, m, r, e, q, _⟩ := g
  obtain ⟨a', ns', i', m', r', e', q', rest⟩ := s
  obtain ⟨zs, k⟩ := b a ⟨_, e⟩
  rw [e'] at k
  have ea : a' = a := V.ref.inj (List.cons.inj (HO.lst.inj (Option.some.inj k))).1
  subst ea
  have eS : upd H D o S = some (.lst [.ref a', .int i', .int m', .int r']) := (upd_ne (Ne.symm nS)).trans e'
  have go : a' ≠ D → StAt K S (upd H D o) := fun nD => by
    refine ⟨a', ns', i', m', r', eS, ?_, rest⟩
    rcases q' with (q' | ⟨o', q'⟩) | q'
    · exact .inl (.inl ((upd_ne nD).trans q'))
    · exact .inl (.inr ⟨o', (upd_ne nD).trans q'⟩)
    · exact .inr q'
  rcases q with (q | ⟨o, q⟩) | q
  · exact go (ne_of_none q n)
  · exact go (ne_of_none q n)
  · exact ⟨a', ns, i', m', r', eS, .inr q, rest⟩
theorem scr_ext {S a : Addr} {H H' : Hp} (x : ExtN H H') (h : Scr H S a) : Scr H' S a := by
  obtain ⟨zs, h⟩ := h
  exact ⟨zs, lst_ext x h⟩
theorem scr_put {S a p : Addr} {H : Hp} {o : HO} (n : p ≠ S) (h : Scr H S a) : Scr (upd H p o) S a := by
  obtain ⟨zs, h⟩ := h
  exact ⟨zs, (upd_ne (Ne.symm n)).trans h⟩
end Lx

namespace Lx
open PySem PySem.Spec PyProof.Rows L2 LamX NdefX
/-! ### range objects as values -/
theorem cr_range1 {X : Cx} : CallR X (.type "range") (fun vs H Q => ∃ j, vs = [V.int j] ∧ ∀ p, H p = none → Q (.ref p) (upd H p (.rng 0 j))) := by
  intro pins s σ H vs us Q I r h
  obtain ⟨j, rfl, q⟩ := h
  cases r with
  | cons r rr =>
    cases rr
    obtain ⟨t, rfl⟩ := r
    refine call_range_1 ⟨.ref s.heap.objs.size, upd H s.heap.objs.size (.rng 0 j), I.laid (t' := s.toks + 1 + 1) (fun b o e => Heap.get?_push_of_some _ e) (Nat.le_refl _) ?_, rfl, q _ (I.hok.fresh (Nat.le_refl _))⟩
    exact ⟨s.toks, t, s.toks + 1, Heap.get?_push_size _ rfl⟩
def iRngV (te : TE) : TI := fun σ H R => te σ H fun x H1 => ∃ (a : Addr) (lo hi : Int), x = .ref a ∧ H1 a = some (.rng lo hi) ∧ (-(2 ^ 62) ≤ lo ∧ lo < 2 ^ 62 ∧ -(2 ^ 62) ≤ hi ∧ hi < 2 ^ 62) ∧ R (Itr lo (hi - lo).toNat) H1
theorem pi_rngV {X : Cx} {tg l : Expr} {tl : TE} (hl : PE X l tl) : PI X tg l (iRngV tl) := by
  refine ⟨fun pins s σ H R I h => ?_⟩
  refine thn (hl.run pins s σ H _ I h) fun v s1 ⟨x, H1, I1, r1, q1⟩ => ?_
  obtain ⟨a, lo, hi, e, hq, ⟨h1, h2, h3, h4⟩, q⟩ := q1
  subst e
  cases r1
  obtain ⟨t, u, v, ho⟩ := I1.hok a _ hq
  refine wpAny_pyIter_range (t := t) (u := u) (v := v) ho (small_one h1 h2 h3 h4) ?_
  refine ⟨s1.heap.objs.size, [s1.heap.objs.size], _, _, H1, rfl, I1.kept (t' := s1.toks) fun b o e => Heap.get?_push_of_some _ e, turn_range _ lo (hi - lo).toNat, ?_, fun b hb => ?_, q⟩
  · have e1 : lo + ((0 : Nat) : Int) * 1 = lo := by simp
    have e2 : (((hi - lo).toNat : Nat) : Int) - ((0 : Nat) : Int) = Builtin.Range.rangeSize lo hi 1 := by rw [rangeSize_one]; split <;> omega
    show IsRangeIter _ _ (lo + ((0 : Nat) : Int) * 1) ((((hi - lo).toNat : Nat) : Int) - ((0 : Nat) : Int)) 1
    rw [e1, e2]
    exact Heap.get?_push_size _ rfl
  · have e : b = s1.heap.objs.size := by simpa using hb
    subst e
    exact I1.fpOk (Nat.le_refl _) (I1.hok.fresh (Nat.le_refl _))
/-! ### timers: what the program's own helpers promise -/
def spCheckLong (CW CL : Addr) : Sp := fun vs H Q E => ∃ n l : Int, vs = [.int n, .int l] ∧ Sm n ∧ Sm l ∧ (¬ Wh n → E (.ref CW) none H) ∧ (Wh n → ¬ Lg n l → E (.ref CL) none H) ∧ (Wh n → Lg n l → Q .non H)
def spCheckLooks (K : PySem.W.Frag) (CG : Addr) : Sp := fun vs H Q E => ∃ (a : Addr) (ns : List Int), vs = [.ref a] ∧ SqL K H a (ns.map V.int) ∧ (∀ x ∈ ns, Sm x) ∧ (riseB 0 ns = false → E (.ref CG) none H) ∧ (riseB 0 ns = true → Q .non H)
theorem drop_at {ns : List Int} {i : Nat} {z : Int} (h : ns[i]? = some z) : ns.drop i = z :: ns.drop (i + 1) := by
  obtain ⟨hi, e⟩ := List.getElem?_eq_some_iff.mp h
  rw [List.drop_eq_getElem_cons hi, e]
theorem at_map {ns : List Int} {i : Nat} {y : V} (h : (ns.map V.int)[i]? = some y) : ∃ z, y = .int z ∧ ns[i]? = some z ∧ z ∈ ns ∧ ns.getD i 0 = z := by
  rw [List.getElem?_map] at h
  cases e : ns[i]? with
  | none => rw [e] at h; cases h
  | some z =>
    rw [e] at h
    exact ⟨z, (Option.some.inj h).symm, rfl, List.mem_of_getElem? e, by rw [List.getD_eq_getElem?_getD, e]; rfl⟩
/-! ### rows: what the program's own helpers promise -/
def spCheckRow (K : PySem.W.Frag) (CS : Addr) : Sp := fun vs H Q E => ∃ (n : Int) (a : Addr) (ns : List Int), vs = [.int n, .ref a] ∧ SqL K H a (ns.map V.int) ∧ Sm n ∧ ns.length ≤ 1000 ∧ (∀ x ∈ ns, Sm x) ∧
  ((60 < ns.length ∨ ∃ x ∈ ns, ¬ Sn n x) → E (.ref CS) none H) ∧ (ns.length ≤ 60 → (∀ x ∈ ns, Sn n x) → Q .non H)
theorem isAh_ord {n a b : Int} (hn : 2 ≤ n) : isAh n a b = decide (ordW n ((b - a) % n) = "ahead") := by
  have d0 := Int.emod_nonneg (b - a) (show n ≠ 0 by omega)
  unfold isAh ordW
  generalize (b - a) % n = d at d0 ⊢
  by_cases h1 : 2 * d = 0
  · rw [if_pos h1]
    rw [decide_eq_false (by omega : ¬ (0 < d ∧ d < (n + 1) / 2))]
    decide
  rw [if_neg h1]
  by_cases h2 : 2 * d = n
  · rw [if_pos h2]
    rw [decide_eq_false (by omega : ¬ (0 < d ∧ d < (n + 1) / 2))]
    decide
  rw [if_neg h2]
  by_cases h3 : 2 * d < n
  · rw [if_pos h3]
    rw [decide_eq_true (by omega : 0 < d ∧ d < (n + 1) / 2)]
    decide
  · rw [if_neg h3]
    rw [decide_eq_false (by omega : ¬ (0 < d ∧ d < (n + 1) / 2))]
    decide
/-- the row of one: which of the others it is ahead of -/
def ahRow (n : Int) (ns : List Int) (a : Int) : List V := ns.map fun b => .bl (isAh n a b)
theorem ahRow_at {n a : Int} {ns : List Int} {j : Nat} (h : j < ns.length) : atI (ahRow n ns a) (j : Int) = some (.bl (isAh n a (ns.getD j 0))) := by
  refine atI_nat ?_
  unfold ahRow
  rw [List.getElem?_map, List.getElem?_eq_getElem h, List.getD_eq_getElem?_getD, List.getElem?_eq_getElem h]
  rfl
theorem plc_div {m i j k : Nat} (hj : j < m) (hk : k < m) : ((i * m + j) * m + k) / (m * m) = i ∧ ((i * m + j) * m + k) / m % m = j ∧ ((i * m + j) * m + k) % m = k := by
  have mp : 0 < m := by omega
  have e1 : ((i * m + j) * m + k) / m = i * m + j := by
    rw [Nat.mul_comm (i * m + j) m, Nat.mul_add_div mp, Nat.div_eq_of_lt hk, Nat.add_zero]
  refine ⟨?_, ?_, ?_⟩
  · rw [← Nat.div_div_eq_div_mul, e1, Nat.mul_comm i m, Nat.mul_add_div mp, Nat.div_eq_of_lt hj, Nat.add_zero]
  · rw [e1, Nat.mul_comm i m, Nat.mul_add_mod, Nat.mod_eq_of_lt hj]
  · rw [Nat.mul_comm (i * m + j) m, Nat.mul_add_mod, Nat.mod_eq_of_lt hk]
theorem Rg_plc {n : Int} {ns : List Int} {i j k : Nat} (hj : j < ns.length) (hk : k < ns.length) :
    Rg n ns ((i * ns.length + j) * ns.length + k) = (isAh n (ns.getD i 0) (ns.getD j 0) && isAh n (ns.getD j 0) (ns.getD k 0) && isAh n (ns.getD k 0) (ns.getD i 0)) := by
  obtain ⟨e1, e2, e3⟩ := plc_div (i := i) hj hk
  unfold Rg
  rw [e1, e2, e3]
end Lx

namespace Lx
open PySem PySem.Spec PyProof.Rows L2 LamX NdefX
/-! ### a class of the module whose methods are known by their promises -/
structure KnM (P : Program) (w : World) (K : PySem.W.Frag) (mg : Str → Option Value) (base : Heap) (CT : CXT) (k : Nat) (C : Addr) (m : Str) (ps : List Str) (dvs : List V) (sp : Sp) : Prop where
  ex : ∃ (f : Addr) (fd : FuncData) (ds : List Value), FnOk P w K mg base CT k f fd ps sp ∧ Meth K C m f ∧ Binds K fd ps ds ∧ Vals dvs ds
  cl : Cls K C
structure KnI (P : Program) (w : World) (K : PySem.W.Frag) (mg : Str → Option Value) (base : Heap) (CT : CXT) (k : Nat) (C : Addr) (x : Str) (ps : List Str) (sp : Sp) : Prop where
  ex : ∃ (f : Addr) (fd : FuncData), FnOk P w K mg base CT k f fd ps sp ∧ Mk K C f ∧ mg x = some (.ref C) ∧ Binds K fd ps []
def tMethS (C : Addr) (m : Str) (sp : Sp) (dvs : List V) (E : L2.St → XK) (ta : TE) (t : TA) : TE := fun σ H Q => ta σ H fun x H1 => ∃ a dx fs, x = .ref a ∧ H1 a = some (.ins C dx fs) ∧ fs.lookup m = none ∧
  t σ H1 fun vs H2 => sp (x :: (vs ++ dvs)) H2 Q (E σ)
section
variable {X : Cx} {CT : CXT} {k j : Nat} {C : Addr} {x m : Str} {ps : List Str} {dvs : List V} {sp : Sp} {E : L2.St → XK} {E1 : XK} {e o : Expr} {es : List Expr} {ta : TE} {t : TA} {p pos apos : Pos} {pl : Sem Bool}
/-- o.m(e, ..), what is raised told at the slots -/
theorem pe_methS (he : PE X o ta) (D : KnM X.prog X.w X.K X.mg X.base CT j C m ps dvs sp) (hr : Room k X.A) (hj : j ≤ k) (hx : ∀ σ, PassesAt CT X σ (E σ)) (ha : PA X (e :: es) t)
    (hst : starEach (e :: es) X.env = (false, eval e X.env) :: starEach es X.env := by rfl) (hpl : (backTo pos (starEach es X.env)).any (·.1) = false := by rfl)
    (ht : eval (.Call (.Attribute o m apos) (e :: es) [] pos) X.env = (do
      let ov ← eval o X.env
      standAt apos.atName
      let (f, first) ← holding [ov] (getMethod ov m pl)
      callWith pos f first (backTo pos (starEach (e :: es) X.env)) (backToKw pos (keywordEach [] X.env))) := by rfl) :
    PE X (.Call (.Attribute o m apos) (e :: es) [] pos) (tMethS C m sp dvs E ta t) := by
  obtain ⟨f, fd, ds, F, hm, hb, hd⟩ := D.ex
  refine ⟨fun pins s σ H Q I h => ?_⟩
  refine PySem.W.methodCall_KW (pl := pl) (thn (he.run pins s σ H _ I h) fun u s1 ⟨x, H1, I1, rx, a, dx, fs, ex, ea, l, q⟩ => ?_) ht
  subst ex
  obtain rfl : u = Value.ref a := rx
  refine getmeth_ok I1 ea D.cl hm l ?_
  refine PySem.W.callWith_K (first := [.ref a]) (h₀ := X.base) I.ok.mod.kin hm.kp (thn (ha.run pos pins s1 σ H1 _ I1 q) fun us s2 ⟨vs, H2, I2, r, q2⟩ => ⟨I2.kIn, ?_⟩) hst hpl
  exact run_fnSD (us := .ref a :: us) (vs := .ref a :: vs) F (hr.mono hj) hb hd (hx σ) I2 (.cons rfl r) q2
theorem passS (h : Passes CT X E1) : ∀ σ, PassesAt CT X σ ((fun _ => E1) σ) := fun σ pins H s e s' I c => h pins σ H s e s' I c
/-- it may raise, not here -/
theorem pe_methL (he : PE X o ta) (D : KnM X.prog X.w X.K X.mg X.base (L2.CX X.prog X.w) j C m ps dvs sp) (hr : Room k X.A) (hj : j ≤ k) (ha : PA X (e :: es) t)
    (hst : starEach (e :: es) X.env = (false, eval e X.env) :: starEach es X.env := by rfl) (hpl : (backTo pos (starEach es X.env)).any (·.1) = false := by rfl)
    (ht : eval (.Call (.Attribute o m apos) (e :: es) [] pos) X.env = (do
      let ov ← eval o X.env
      standAt apos.atName
      let (f, first) ← holding [ov] (getMethod ov m pl)
      callWith pos f first (backTo pos (starEach (e :: es) X.env)) (backToKw pos (keywordEach [] X.env))) := by rfl) :
    PE X (.Call (.Attribute o m apos) (e :: es) [] pos) (tMethS C m sp dvs (fun _ => L2.E0) ta t) :=
  pe_methS he D hr hj (passS passL) ha hst hpl ht
/-- o.m() -/
theorem pe_methL0 (he : PE X o ta) (D : KnM X.prog X.w X.K X.mg X.base CX0 j C m ps dvs sp) (hr : Room k X.A) (hj : j ≤ k)
    (ht : eval (.Call (.Attribute o m apos) [] [] pos) X.env = (do
      let ov ← eval o X.env
      standAt apos.atName
      let (f, first) ← holding [ov] (getMethod ov m pl)
      callWith pos f first (backTo pos (starEach [] X.env)) (backToKw pos (keywordEach [] X.env))) := by rfl) :
    PE X (.Call (.Attribute o m apos) [] [] pos) (tMeth C m sp dvs L2.E0 ta tNil) := by
  obtain ⟨f, fd, ds, F, hm, hb, hd⟩ := D.ex
  exact pe_meth0 he D.cl hm F (hr.mono hj) hb hd pass0 ht
/-- C(e, ..) -/
theorem pe_new (D : KnI X.prog X.w X.K X.mg X.base CT j C x ps sp) (hr : Room k X.A) (hj : j + 1 ≤ k) (hx : Passes CT X E1) (ha : PA X (e :: es) t) (hg : Gl X x)
    (hdb : (x == ("__debug__" : Str)) = false := by decide) (he : starEach (e :: es) X.env = (false, eval e X.env) :: starEach es X.env := by rfl) (hpl : (backTo pos (starEach es X.env)).any (·.1) = false := by rfl) :
    PE X (.Call (.Name x p) (e :: es) [] pos) (tMake C sp [] E1 t) := by
  obtain ⟨f, fd, F, M, hm, hb⟩ := D.ex
  exact pe_make M F (hr.mono hj) hg hm hb .nil hx ha hdb he hpl
end
/-! ### readers -/
theorem kWR : ¬ (("_wheel" : Str) = "_rule") := by decide +kernel
theorem kWT : ¬ (("_wheel" : Str) = "_told") := by decide +kernel
theorem kRT : ¬ (("_rule" : Str) = "_told") := by decide +kernel
/-- the attributes of a reader, as __init__ stores them -/
def rflds (n : Int) (ra : Addr) (t : Int) : List (Str × V) := putF "_told" (.int t) (putF "_rule" (.ref ra) (putF "_wheel" (.int n) []))
theorem rflds_eq (n : Int) (ra : Addr) (t : Int) : rflds n ra t = ([("_wheel", V.int n), ("_rule", V.ref ra), ("_told", V.int t)] : List (Str × V)) := by
  have e1 : putF "_wheel" (V.int n) [] = ([("_wheel", V.int n)] : List (Str × V)) := rfl
  have e2 : putF "_rule" (V.ref ra) ([("_wheel", V.int n)] : List (Str × V)) = ([("_wheel", V.int n), ("_rule", V.ref ra)] : List (Str × V)) := by
    show (if ("_wheel" : Str) = "_rule" then _ else (("_wheel" : Str), V.int n) :: putF "_rule" (V.ref ra) []) = _
    rw [if_neg kWR]; rfl
  unfold rflds
  rw [e1, e2]
  show (if ("_wheel" : Str) = "_told" then _ else (("_wheel" : Str), V.int n) :: (if ("_rule" : Str) = "_told" then _ else (("_rule" : Str), V.ref ra) :: putF "_told" (V.int t) [])) = _
  rw [if_neg kWT, if_neg kRT]; rfl
theorem rflds_wheel (n : Int) (ra : Addr) (t : Int) : (rflds n ra t).lookup ("_wheel" : Str) = some (.int n) := by
  unfold rflds
  rw [lookup_putF, if_neg (by decide +kernel), lookup_putF, if_neg (by decide +kernel), lookup_putF, if_pos rfl]
theorem rflds_rule (n : Int) (ra : Addr) (t : Int) : (rflds n ra t).lookup ("_rule" : Str) = some (.ref ra) := by
  unfold rflds
  rw [lookup_putF, if_neg (by decide +kernel), lookup_putF, if_pos rfl]
theorem rflds_told (n : Int) (ra : Addr) (t : Int) : (rflds n ra t).lookup ("_told" : Str) = some (.int t) := by
  unfold rflds
  rw [lookup_putF, if_pos rfl]
theorem rflds_no (n : Int) (ra : Addr) (t : Int) {m : Str} (h1 : ¬ m = "_told") (h2 : ¬ m = "_rule") (h3 : ¬ m = "_wheel") : (rflds n ra t).lookup m = none := by
  unfold rflds
  rw [lookup_putF, if_neg h1, lookup_putF, if_neg h2, lookup_putF, if_neg h3]
  rfl
theorem rflds_look (n : Int) (ra : Addr) (t : Int) : (rflds n ra t).lookup ("look" : Str) = none := rflds_no n ra t (by decide +kernel) (by decide +kernel) (by decide +kernel)
theorem rflds_now (n : Int) (ra : Addr) (t : Int) : (rflds n ra t).lookup ("now" : Str) = none := rflds_no n ra t (by decide +kernel) (by decide +kernel) (by decide +kernel)
theorem rflds_put (n : Int) (ra : Addr) (t u : Int) : putF "_told" (.int u) (rflds n ra t) = rflds n ra u := by
  rw [rflds_eq, rflds_eq]
  show (if ("_wheel" : Str) = "_told" then _ else (("_wheel" : Str), V.int n) :: (if ("_rule" : Str) = "_told" then _ else (("_rule" : Str), V.ref ra) :: (if ("_told" : Str) = "_told" then [(("_told" : Str), V.int u)] else _))) = _
  rw [if_neg kWT, if_neg kRT, if_pos rfl]
/-- all but p stays -/
def Upto (p : Addr) (H H' : Hp) : Prop := ∀ b o, b ≠ p → H b = some o → H' b = some o
theorem Upto.trans {p : Addr} {H H1 H2 : Hp} (a : Upto p H H1) (b : Upto p H1 H2) : Upto p H H2 := fun c o n e => b c o n (a c o n e)
theorem Upto.of {p : Addr} {H H' : Hp} (s : Same H H') : Upto p H H' := fun c o _ e => s c o e
/-- a reader stands at p: its wheel, its rule at ra, the long time told last -/
structure RdAt (C : Addr) (H : Hp) (p : Addr) (n : Int) (ra : Addr) (r : Rul) (t : Int) : Prop where
  ob : ∃ dx, H p = some (.ins C dx (rflds n ra t))
  ru : H ra = some (.tup (rulT r))
  wh : Wh n
  ok : RulOk n r
theorem RdAt.same {C : Addr} {H H' : Hp} {p : Addr} {n : Int} {ra : Addr} {r : Rul} {t : Int} (d : RdAt C H p n ra r t) (s : Same H H') : RdAt C H' p n ra r t := by
  obtain ⟨⟨dx, e⟩, e2, h1, h2⟩ := d
  exact ⟨⟨dx, s _ _ e⟩, s _ _ e2, h1, h2⟩
theorem Upto.lst {p q C dx : Addr} {H H' : Hp} {fs : List (Str × V)} {o : HO} (u : Upto p H H') (hp : H p = some (.ins C dx fs)) (e : H q = some o) (h : ∀ C dx fs, o ≠ .ins C dx fs) : H' q = some o :=
  u q o (fun z => by rw [z, hp] at e; exact h _ _ _ (Option.some.inj e).symm) e
theorem Upto.seq {K : PySem.W.Frag} {p q C dx : Addr} {H H' : Hp} {fs : List (Str × V)} {xs : List V} (u : Upto p H H') (hp : H p = some (.ins C dx fs)) (h : SqL K H q xs) : SqL K H' q xs := by
  rcases h with (h | ⟨o, h⟩) | h
  · exact .inl (.inl (u.lst hp h fun _ _ _ z => (nomatch z)))
  · exact .inl (.inr ⟨o, u.lst hp h fun _ _ _ z => (nomatch z)⟩)
  · exact .inr h
/-- what the walk asks of the class Reader as the top has made it -/
structure RdTxt (K : PySem.W.Frag) (C : Addr) : Prop where
  cl : Cls K C
  nW : NoAttr K C "_wheel"
  nR : NoAttr K C "_rule"
  nT : NoAttr K C "_told"
def spRdInit (C CW CR : Addr) (K : PySem.W.Frag) : Sp := fun vs H Q E => ∃ (p dx : Addr) (n : Int) (a : Addr) (t : Int), vs = [.ref p, .int n, .ref a, .int t] ∧ H p = some (.ins C dx []) ∧ RulIn K CW CR n a H E fun r =>
  ∀ H', Upto p H H' → RdAt C H' p n a r t → Q .non H'
/-- what look promises of a shown number s -/
def spRdLook (K : PySem.W.Frag) (C CS CN : Addr) : Sp := fun vs H Q E => ∃ (p : Addr) (v ab : V) (n : Int) (ra : Addr) (r : Rul) (t : Int) (s : Int × Int), vs = [.ref p, v, ab] ∧ RdAt C H p n ra r t ∧ SeenAt K H r v s ∧ Sm s.1 ∧ Sm s.2 ∧
  (¬ ShOk n r s → ∀ H', Same H H' → E (.ref CS) none H') ∧
  (ShOk n r s → ∃ c : Int, (∀ f, r = .about f → ab = .int c ∧ Sm c) ∧
    (∀ g, GapR n r (s.1 - (shS n r t).1, s.2 - (shS n r t).2) c (some g) → ∀ H', Upto p H H' → RdAt C H' p n ra r (t + g) → Q (.int (t + g)) H') ∧
    (GapR n r (s.1 - (shS n r t).1, s.2 - (shS n r t).2) c none → ∀ H', Same H H' → E (.ref CN) none H'))
/-- whether a reader tells a time -/
def spTells (K : PySem.W.Frag) (C : Addr) : Sp := fun vs H Q _ => ∃ (p : Addr) (v ab : V) (tm n : Int) (ra : Addr) (r : Rul) (t : Int) (s : Int × Int) (c : Int), vs = [.ref p, v, ab, .int tm] ∧ RdAt C H p n ra r t ∧ SeenAt K H r v s ∧ Sm s.1 ∧ Sm s.2 ∧ ShOk n r s ∧
  (∀ f, r = .about f → ab = .int c ∧ Sm c) ∧
  (∀ g, GapR n r (s.1 - (shS n r t).1, s.2 - (shS n r t).2) c (some g) → ∀ H', Upto p H H' → RdAt C H' p n ra r (t + g) → Q (.bl (decide (t + g = tm))) H') ∧
  (GapR n r (s.1 - (shS n r t).1, s.2 - (shS n r t).2) c none → ∀ H', Same H H' → Q (.bl false) H')
/-- how many abouts are asked for -/
def wanted (r : Rul) (m : Nat) : Int := match r with
  | .about _ => (m : Int) - 1
  | _ => 0
def spCheckCounts (K : PySem.W.Frag) (CG : Addr) : Sp := fun vs H Q E => ∃ (a pt pa : Addr) (r : Rul) (ts as : List Int), vs = [.ref a, .ref pt, .ref pa] ∧ H a = some (.tup (rulT r)) ∧ SqL K H pt (ts.map V.int) ∧ SqL K H pa (as.map V.int) ∧ ts.length ≤ 1000 ∧ as.length ≤ 1000 ∧
  (ts = [] ∨ (as.length : Int) ≠ wanted r ts.length → E (.ref CG) none H) ∧ (ts ≠ [] → (as.length : Int) = wanted r ts.length → Q .non H)
/-- the look at place j (the one number j + 1) is told right -/
def rightB (n : Int) (r : Rul) (ts as : List Int) (j : Nat) : Bool := decide ((gd n r (as.getD j 0)).1 ≤ ts.getD (j + 1) 0 - ts.getD j 0 ∧ ts.getD (j + 1) 0 - ts.getD j 0 ≤ (gd n r (as.getD j 0)).2)
/-- the number of the first look that isn't told right -/
def fwP (n : Int) (r : Rul) (ts as : List Int) : Option Nat := firstP (fun j => !rightB n r ts as j) (ts.length - 1)
def placeV1 : Option Nat → V
  | none => .non
  | some p => .int ((p : Int) + 1)
def spFirstWrong (K : PySem.W.Frag) (CW CR CG : Addr) : Sp := fun vs H Q E => ∃ (n : Int) (a pt pa : Addr) (ts as : List Int), vs = [.int n, .ref a, .ref pt, .ref pa] ∧ SqL K H pt (ts.map V.int) ∧ SqL K H pa (as.map V.int) ∧ ts.length ≤ 1000 ∧ as.length ≤ 1000 ∧ (∀ x ∈ as, Sm x) ∧
  RulIn K CW CR n a H E fun r => (ts = [] ∨ (as.length : Int) ≠ wanted r ts.length → ∀ H', Same H H' → E (.ref CG) none H') ∧
    (ts ≠ [] → (as.length : Int) = wanted r ts.length → ∀ H', Same H H' → Q (placeV1 (fwP n r ts as)) H')
def spRdNow (C : Addr) : Sp := fun vs H Q _ => ∃ (p : Addr) (n : Int) (ra : Addr) (r : Rul) (t : Int), vs = [.ref p] ∧ RdAt C H p n ra r t ∧ Q (.int t) H
end Lx

namespace Lx
open PySem PySem.Spec PyProof.Rows L2 LamX NdefX
/-! ### rows of times -/
theorem But.back {S p : Addr} {H H' : Hp} (b : But S H H') (h : H' p = none) (n : p ≠ S) : H p = none := by
  cases e : H p with
  | none => rfl
  | some o => rw [b.keep p o n e] at h; cases h
def spTimes (K : PySem.W.Frag) : Sp := fun vs H Q _ => ∃ (S : Addr) (n : Int) (ra : Addr) (m : Int) (r : Rul), vs = [.ref S, .int n, .ref ra, .int m] ∧ Wh n ∧ RulOk n r ∧ StAt K S H ∧ H ra = some (.tup (rulT r)) ∧ 0 ≤ m ∧ m ≤ 900 ∧
  ∀ (p pt pa : Addr) (ts as : List Int) (H' : Hp), ts ≠ [] → ts.length ≤ 910 → as.length ≤ 910 → (as.length : Int) = wanted r ts.length → (∀ x ∈ as, Sm x) → But S H H' → StAt K S H' →
    H' p = some (.tup [.ref pt, .ref pa]) → H' pt = some (.lst (ts.map V.int)) → H' pa = some (.lst (as.map V.int)) → Q (.ref p) H'
/-- tuples of two lists of numbers, compared -/
theorem shaped_two (ns ms : List Int) : SeqAt.shaped (.tuple [.list (ns.map PyData.int), .list (ms.map PyData.int)]) = true := by
  simp [SeqAt.shaped, PyData.canLay0, PyData.canLayAll0, PyData.depth, PyData.depthAll, lay_ints, depth_ints]
theorem eqv_two (ns ms : List Int) : PyData.eqv (.tuple [.list (ns.map PyData.int), .list (ms.map PyData.int)]) (.tuple [.list (ns.map PyData.int), .list (ms.map PyData.int)]) = true := by
  simp [PyData.eqv, PyData.eqvAll]
  exact ⟨eqv_ints ns, eqv_ints ms⟩
theorem ne_two {K : PySem.W.Frag} {H : Hp} {p q a b c d : Addr} {ns ms : List Int} {Q : VK} (hp : SqT K H p [.ref a, .ref b]) (hq : SqT K H q [.ref c, .ref d]) (ha : SqL K H a (ns.map V.int)) (hb : SqL K H b (ms.map V.int)) (hc : SqL K H c (ns.map V.int)) (hd : SqL K H d (ms.map V.int))
    (z : Q (.bl false) H) : rNeD K (.ref p) (.ref q) H Q := by
  refine ⟨_, _, .tup hp (.cons (.lst ha (dpAll_ints ns)) (.cons (.lst hb (dpAll_ints ms)) .nil)), .tup hq (.cons (.lst hc (dpAll_ints ns)) (.cons (.lst hd (dpAll_ints ms)) .nil)), shaped_two ns ms, shaped_two ns ms, ?_⟩
  rw [eqv_two]
  exact z
theorem placeV1_flat (o : Option Nat) : flatV (placeV1 o) = true := by cases o <;> rfl
theorem wanted_next {r : Rul} {m : Nat} {l : Nat} (h : (l : Int) = wanted r m) : wanted r (m + 1) = match r with | .about _ => (l : Int) + 1 | _ => (l : Int) := by
  cases r with
  | about f => have h : (l : Int) = (m : Int) - 1 := h; show ((m + 1 : Nat) : Int) - 1 = (l : Int) + 1; omega
  | up _ => have h : (l : Int) = 0 := h; show (0 : Int) = l; omega
  | near => have h : (l : Int) = 0 := h; show (0 : Int) = l; omega
  | pair _ => have h : (l : Int) = 0 := h; show (0 : Int) = l; omega
/-- the last item of a list that isn't empty -/
theorem at_last_ne {ts : List Int} (h : ts ≠ []) : ∃ z, atI (ts.map V.int) (-1) = some (.int z) := by
  cases ts with
  | nil => exact absurd rfl h
  | cons t r => exact ⟨lastL t r, at_lastL r t⟩
/-- how far a look is from the last one; of about, how much more the about is -/
def farI (r : Rul) (ts as : List Int) (i : Nat) : Int := match r with
  | .about _ => as.getD i 0 - (ts.getD (i + 1) 0 - ts.getD i 0)
  | _ => ts.getD (i + 1) 0 - ts.getD i 0
theorem right_far {n : Int} {r : Rul} {ts as : List Int} {i : Nat} : rightB n r ts as i = decide ((bd n r).1 ≤ farI r ts as i ∧ farI r ts as i ≤ (bd n r).2) := by
  unfold rightB
  refine decide_eq_decide.mpr ?_
  cases r with
  | about f =>
    show as.getD i 0 - f ≤ ts.getD (i + 1) 0 - ts.getD i 0 ∧ ts.getD (i + 1) 0 - ts.getD i 0 ≤ as.getD i 0 + f ↔ -f ≤ as.getD i 0 - (ts.getD (i + 1) 0 - ts.getD i 0) ∧ as.getD i 0 - (ts.getD (i + 1) 0 - ts.getD i 0) ≤ f
    constructor <;> intro h <;> omega
  | up l => exact Iff.rfl
  | near => exact Iff.rfl
  | pair o => exact Iff.rfl
/-- abouts are there just for about -/
theorem abouts_ne {r : Rul} {ts as : List Int} (h : (as.length : Int) = wanted r ts.length) (h2 : 1 < ts.length) : as ≠ [] ↔ ∃ f, r = .about f := by
  cases r with
  | about f =>
    have h : (as.length : Int) = (ts.length : Int) - 1 := h
    exact ⟨fun _ => ⟨f, rfl⟩, fun _ z => by rw [z] at h; have h : (0 : Int) = (ts.length : Int) - 1 := h; omega⟩
  | up l => exact ⟨fun z => absurd (List.length_eq_zero_iff.mp (by have h : (as.length : Int) = 0 := h; omega)) z, fun ⟨_, z⟩ => nomatch z⟩
  | near => exact ⟨fun z => absurd (List.length_eq_zero_iff.mp (by have h : (as.length : Int) = 0 := h; omega)) z, fun ⟨_, z⟩ => nomatch z⟩
  | pair o => exact ⟨fun z => absurd (List.length_eq_zero_iff.mp (by have h : (as.length : Int) = 0 := h; omega)) z, fun ⟨_, z⟩ => nomatch z⟩
/-- xs != [] of a list of numbers -/
theorem ne_nil {K : PySem.W.Frag} {H : Hp} {a b : Addr} {ns : List Int} {Q : VK} (ha : SqL K H a (ns.map V.int)) (hb : SqL K H b []) (q : Q (.bl (!decide (ns = []))) H) : rNeD K (.ref a) (.ref b) H Q := by
  refine ⟨_, _, .lst ha (dpAll_ints ns), .lst hb .nil, shaped_ints ns, shaped_ints [], ?_⟩
  rw [eqv_nil]
  exact q
end Lx

namespace Lx
open PySem PySem.Spec PyProof.Rows L2 LamX NdefX
/-! ### readers, looked at by turns -/
def boolAt (i : Nat) : Expr → Expr
  | .BoolOp _ es _ => es.getD i (.Constant .none 0 ⟨0, 0, 0, 0⟩)
  | e => e
/-- a side: its list at D, its reader at p .. -/
structure Sd where
  D : Addr
  p : Addr
  n : Int
  ra : Addr
  r : Rul
  last : V
  long : Int
  there : Int
def Sd.items (d : Sd) : List V := [.ref d.p, .int d.n, .ref d.ra, d.last, .int d.long, .int d.there]
structure SdAt (K : PySem.W.Frag) (C : Addr) (H : Hp) (d : Sd) : Prop where
  li : H d.D = some (.lst d.items)
  rd : RdAt C H d.p d.n d.ra d.r d.long
  se : SeenAt K H d.r d.last (shS d.n d.r d.there)
  eq : shS d.n d.r d.long = shS d.n d.r d.there
/-- all but the state, a side's list and its reader, and tables, stays -/
def Kp3 (S D p : Addr) (H H' : Hp) : Prop := ∀ b o, b ≠ S → b ≠ D → b ≠ p → (∀ ps, o ≠ .tbl ps) → H b = some o → H' b = some o
theorem Kp3.trans {S D p : Addr} {H H1 H2 : Hp} (a : Kp3 S D p H H1) (b : Kp3 S D p H1 H2) : Kp3 S D p H H2 := fun c o h1 h2 h3 h4 e => b c o h1 h2 h3 h4 (a c o h1 h2 h3 h4 e)
theorem Kp3.same {S D p : Addr} {H H' : Hp} (s : Same H H') : Kp3 S D p H H' := fun c o _ _ _ _ e => s c o e
theorem Kp3.ext {S D p : Addr} {H H' : Hp} (s : ExtN H H') : Kp3 S D p H H' := fun c o _ _ _ h e => s c o e h
theorem Kp3.but {S D p : Addr} {H H' : Hp} (s : But S H H') : Kp3 S D p H H' := fun c o h _ _ _ e => s.keep c o h e
theorem Kp3.upto {S D p : Addr} {H H' : Hp} (s : Upto p H H') : Kp3 S D p H H' := fun c o _ _ h _ e => s c o h e
theorem Kp3.put {S D p : Addr} {H : Hp} {o : HO} : Kp3 S D p H (upd H D o) := fun c u _ h _ _ e => by rw [upd_ne h]; exact e
theorem Upto.ext {p C dx : Addr} {H H' : Hp} {fs : List (Str × V)} (u : Upto p H H') (T : List (Addr × Str)) (hp : H p = some (.ins C dx fs)) (t : Tabs T H) : Tabs T H' := by
  intro q hq
  obtain ⟨ps, h1, h2, h3⟩ := t q hq
  refine ⟨ps, u.lst hp h1 (fun _ _ _ z => (nomatch z)), h2, fun pos cv hc => ?_⟩
  obtain ⟨c, e1, e2⟩ := h3 pos cv hc
  exact ⟨c, e1, u.lst hp e2 fun _ _ _ z => by unfold CodeO at z; cases z⟩
theorem Upto.st {K : PySem.W.Frag} {S p C dx : Addr} {H H' : Hp} {fs : List (Str × V)} (u : Upto p H H') (hp : H p = some (.ins C dx fs)) (s : StAt K S H) : StAt K S H' := by
  obtain ⟨a, ns, i, m, r, e, q, rest⟩ := s
  exact ⟨a, ns, i, m, r, u.lst hp e (fun _ _ _ z => (nomatch z)), u.seq hp q, rest⟩
theorem Upto.scr {S p C dx a : Addr} {H H' : Hp} {fs : List (Str × V)} (u : Upto p H H') (hp : H p = some (.ins C dx fs)) (s : Scr H S a) : Scr H' S a := by
  obtain ⟨zs, e⟩ := s
  exact ⟨zs, u.lst hp e fun _ _ _ z => (nomatch z)⟩
theorem scr_same {S a : Addr} {H H' : Hp} (x : Same H H') (h : Scr H S a) : Scr H' S a := by
  obtain ⟨zs, h⟩ := h
  exact ⟨zs, x _ _ h⟩
/-- the script isn't the list at D -/
def Apt (K : PySem.W.Frag) (S D : Addr) (H : Hp) : Prop := ∃ G, StAt K S G ∧ G D = none ∧ ∀ a, Scr G S a → Scr H S a
theorem Apt.mono {K : PySem.W.Frag} {S D : Addr} {H H' : Hp} (h : Apt K S D H) (s : ∀ a, Scr H S a → Scr H' S a) : Apt K S D H' := by
  obtain ⟨G, g, n, b⟩ := h
  exact ⟨G, g, n, fun a z => s a (b a z)⟩
theorem Apt.put {K : PySem.W.Frag} {S D : Addr} {H : Hp} {o : HO} (h : Apt K S D H) (s : StAt K S H) (n : D ≠ S) : StAt K S (upd H D o) := by
  obtain ⟨G, g, nD, b⟩ := h
  exact StAt.lay2 g nD b s n
theorem SeenAt.kp3 {K : PySem.W.Frag} {S D p : Addr} {H H' : Hp} {r : Rul} {v : V} {s : Int × Int} (u : Kp3 S D p H H') (hS : ∃ xs, H S = some (.lst xs)) (hD : ∃ xs, H D = some (.lst xs)) (hp : ∃ C dx fs, H p = some (.ins C dx fs)) (h : SeenAt K H r v s) : SeenAt K H' r v s := by
  obtain ⟨x1, hS⟩ := hS
  obtain ⟨x2, hD⟩ := hD
  obtain ⟨C, dx, fs, hp⟩ := hp
  cases r with
  | pair o =>
    obtain ⟨q, e1, e2⟩ := h
    refine ⟨q, e1, ?_⟩
    have go : ∀ o, (∀ xs, o ≠ .lst xs) → (∀ C dx fs, o ≠ .ins C dx fs) → (∀ ps, o ≠ .tbl ps) → H q = some o → H' q = some o := fun o n1 n2 n3 e =>
      u q o (fun z => by rw [z, hS] at e; exact n1 _ (Option.some.inj e).symm) (fun z => by rw [z, hD] at e; exact n1 _ (Option.some.inj e).symm) (fun z => by rw [z, hp] at e; exact n2 _ _ _ (Option.some.inj e).symm) n3 e
    rcases e2 with (e2 | ⟨o, e2⟩) | e2
    · exact .inl (.inl (go _ (fun _ z => (nomatch z)) (fun _ _ _ z => (nomatch z)) (fun _ z => (nomatch z)) e2))
    · exact .inl (.inr ⟨o, go _ (fun _ z => (nomatch z)) (fun _ _ _ z => (nomatch z)) (fun _ z => (nomatch z)) e2⟩)
    · exact .inr e2
  | up _ => exact h
  | near => exact h
  | about _ => exact h
theorem SeenAt.upto {K : PySem.W.Frag} {p : Addr} {H H' : Hp} {r : Rul} {v : V} {s : Int × Int} (u : Upto p H H') (hp : ∃ C dx fs, H p = some (.ins C dx fs)) (h : SeenAt K H r v s) : SeenAt K H' r v s := by
  obtain ⟨C, dx, fs, hp⟩ := hp
  cases r with
  | pair o =>
    obtain ⟨q, e1, e2⟩ := h
    refine ⟨q, e1, ?_⟩
    rcases e2 with (e2 | ⟨o, e2⟩) | e2
    · exact .inl (.inl (u.lst hp e2 fun _ _ _ z => (nomatch z)))
    · exact .inl (.inr ⟨o, u.lst hp e2 fun _ _ _ z => (nomatch z)⟩)
    · exact .inr e2
  | up _ => exact h
  | near => exact h
  | about _ => exact h
theorem SeenAt.putL {K : PySem.W.Frag} {D : Addr} {H : Hp} {r : Rul} {v : V} {s : Int × Int} {xs : List V} {o : HO} (e : H D = some (.lst xs)) (h : SeenAt K H r v s) : SeenAt K (upd H D o) r v s := by
  cases r with
  | pair o =>
    obtain ⟨q, e1, e2⟩ := h
    refine ⟨q, e1, ?_⟩
    rcases e2 with (e2 | ⟨o, e2⟩) | e2
    · exact .inl (.inl (put_keep e e2 fun _ z => (nomatch z)))
    · exact .inl (.inr ⟨o, put_keep e e2 fun _ z => (nomatch z)⟩)
    · exact .inr e2
  | up _ => exact h
  | near => exact h
  | about _ => exact h
theorem RdAt.putL {C D : Addr} {H : Hp} {p : Addr} {n : Int} {ra : Addr} {r : Rul} {t : Int} {xs : List V} {o : HO} (e : H D = some (.lst xs)) (d : RdAt C H p n ra r t) : RdAt C (upd H D o) p n ra r t := by
  obtain ⟨⟨dx, e1⟩, e2, h1, h2⟩ := d
  exact ⟨⟨dx, put_keep e e1 fun _ z => (nomatch z)⟩, put_keep e e2 fun _ z => (nomatch z), h1, h2⟩
theorem RdAt.ext {C : Addr} {H H' : Hp} {p : Addr} {n : Int} {ra : Addr} {r : Rul} {t : Int} (d : RdAt C H p n ra r t) (s : ExtN H H') : RdAt C H' p n ra r t := by
  obtain ⟨⟨dx, e⟩, e2, h1, h2⟩ := d
  exact ⟨⟨dx, s _ _ e fun _ z => (nomatch z)⟩, s _ _ e2 fun _ z => (nomatch z), h1, h2⟩
theorem RdAt.but {K : PySem.W.Frag} {S C : Addr} {H H' : Hp} {p : Addr} {n : Int} {ra : Addr} {r : Rul} {t : Int} (d : RdAt C H p n ra r t) (st : StAt K S H) (b : But S H H') : RdAt C H' p n ra r t := by
  obtain ⟨⟨dx, e⟩, e2, h1, h2⟩ := d
  exact ⟨⟨dx, b _ _ (st.ne e fun _ z => (nomatch z)) e⟩, b _ _ (st.ne e2 fun _ z => (nomatch z)) e2, h1, h2⟩
/-- a step keeps what is shown -/
theorem sh_step {n c long there fa g : Int} {r : Rul} (h : shS n r long = shS n r there)
    (hg : GapR n r ((shS n r (there + fa)).1 - (shS n r there).1, (shS n r (there + fa)).2 - (shS n r there).2) c (some g)) : shS n r (long + g) = shS n r (there + fa) := by
  have key : ∀ m : Int, long % m = there % m → m ∣ g - ((there + fa) % m - there % m) → (long + g) % m = (there + fa) % m := fun m h1 h2 => by
    obtain ⟨k, hk⟩ := h2
    have a1 := Int.mul_ediv_add_emod long m
    have a2 := Int.mul_ediv_add_emod there m
    have a3 := Int.mul_ediv_add_emod (there + fa) m
    refine Int.emod_eq_emod_iff_emod_sub_eq_zero.mpr (Int.emod_eq_zero_of_dvd ⟨k + long / m - (there + fa) / m, ?_⟩)
    rw [Int.mul_sub, Int.mul_add]
    omega
  cases r with
  | pair o =>
    have h1 : (long % n, long % o) = (there % n, there % o) := h
    have h1a := congrArg Prod.fst h1
    have h1b := congrArg Prod.snd h1
    have e1 := key n h1a hg.2.2.1
    have e2 := key o h1b hg.2.2.2
    show ((long + g) % n, (long + g) % o) = ((there + fa) % n, (there + fa) % o)
    rw [e1, e2]
  | up l =>
    have h1a := congrArg Prod.fst h
    have e1 := key n h1a hg.2.2
    show ((long + g) % n, (0 : Int)) = ((there + fa) % n, 0)
    rw [e1]
  | near =>
    have h1a := congrArg Prod.fst h
    have e1 := key n h1a hg.2.2
    show ((long + g) % n, (0 : Int)) = ((there + fa) % n, 0)
    rw [e1]
  | about l =>
    have h1a := congrArg Prod.fst h
    have e1 := key n h1a hg.2.2
    show ((long + g) % n, (0 : Int)) = ((there + fa) % n, 0)
    rw [e1]
theorem gap_uniq {n c g1 g2 : Int} {r : Rul} {d : Int × Int} (hn : Wh n) (ok : RulOk n r) (h1 : GapR n r d c (some g1)) (h2 : GapR n r d c (some g2)) : g1 = g2 := gap_one hn ok h1.1 h1.2.1 h1.2.2 h2.1 h2.2.1 h2.2.2
theorem gap_not {n c g : Int} {r : Rul} {d : Int × Int} (h1 : GapR n r d c (some g)) (h2 : GapR n r d c none) : False := h2 g h1.1 h1.2.1 h1.2.2
theorem SdAt.same {K : PySem.W.Frag} {C : Addr} {H H' : Hp} {d : Sd} (f : SdAt K C H d) (s : Same H H') : SdAt K C H' d := ⟨s _ _ f.li, f.rd.same s, f.se.same s, f.eq⟩
theorem SdAt.ext {K : PySem.W.Frag} {C : Addr} {H H' : Hp} {d : Sd} (f : SdAt K C H d) (s : ExtN H H') : SdAt K C H' d := ⟨lst_ext s f.li, f.rd.ext s, f.se.ext s, f.eq⟩
theorem SdAt.but {K : PySem.W.Frag} {S C : Addr} {H H' : Hp} {d : Sd} (f : SdAt K C H d) (st : StAt K S H) (n : d.D ≠ S) (s : But S H H') : SdAt K C H' d := ⟨s _ _ n f.li, f.rd.but st s, f.se.but st s, f.eq⟩
/-- another side stays -/
theorem SdAt.kp3 {K : PySem.W.Frag} {S C : Addr} {H H' : Hp} {d e : Sd} (f : SdAt K C H d) (g : SdAt K C H e) (hS : ∃ xs, H S = some (.lst xs)) (n1 : d.D ≠ S) (n2 : d.D ≠ e.D) (n3 : d.p ≠ e.p) (u : Kp3 S e.D e.p H H') : SdAt K C H' d := by
  obtain ⟨xs, hS'⟩ := id hS
  obtain ⟨dxe, hpe⟩ := g.rd.ob
  obtain ⟨dxd, hpd⟩ := f.rd.ob
  have lne : ∀ {b c : Addr} {o o' : HO}, H b = some o → H c = some o' → o ≠ o' → b ≠ c := fun h1 h2 h z => h (by rw [z, h2] at h1; exact (Option.some.inj h1).symm)
  refine ⟨u _ _ n1 n2 (lne f.li hpe fun z => (nomatch z)) (fun _ z => (nomatch z)) f.li, ⟨⟨dxd, u _ _ (lne hpd hS' fun z => (nomatch z)) (lne hpd g.li fun z => (nomatch z)) n3 (fun _ z => (nomatch z)) hpd⟩, u _ _ (lne f.rd.ru hS' fun z => (nomatch z)) (lne f.rd.ru g.li fun z => (nomatch z)) (lne f.rd.ru hpe fun z => (nomatch z)) (fun _ z => (nomatch z)) f.rd.ru, f.rd.wh, f.rd.ok⟩, ?_, f.eq⟩
  exact f.se.kp3 u hS ⟨_, g.li⟩ ⟨_, _, _, hpe⟩
theorem SdAt.putL {K : PySem.W.Frag} {C L : Addr} {H : Hp} {d : Sd} {xs : List V} {o : HO} (f : SdAt K C H d) (e : H L = some (.lst xs)) (n : d.D ≠ L) : SdAt K C (upd H L o) d := ⟨by rw [upd_ne n]; exact f.li, f.rd.putL e, f.se.putL e, f.eq⟩
theorem same_put {G H : Hp} {D : Addr} {o : HO} (x : Same G H) (n : G D = none) : Same G (upd H D o) := fun b u e => by
  rw [upd_ne (ne_of_none e n)]
  exact x b u e
/-- two sides, and the list of both at L -/
structure Two (K : PySem.W.Frag) (C : Addr) (T : List (Addr × Str)) (S L : Addr) (d e : Sd) (H : Hp) : Prop where
  li : H L = some (.lst [.ref d.D, .ref e.D])
  d1 : SdAt K C H d
  e1 : SdAt K C H e
  da : Apt K S d.D H
  ea : Apt K S e.D H
  dS : d.D ≠ S
  eS : e.D ≠ S
  dL : d.D ≠ L
  eL : e.D ≠ L
  nD : d.D ≠ e.D
  np : d.p ≠ e.p
  nS : L ≠ S
  st : StAt K S H
  tb : Tabs T H
section
variable {K : PySem.W.Frag} {C : Addr} {T : List (Addr × Str)} {S L : Addr} {d e : Sd} {H H' : Hp}
theorem Two.swap (f : Two K C T S L d e H) : Two K C T S L d e H := f
theorem Two.same (f : Two K C T S L d e H) (s : Same H H') : Two K C T S L d e H' :=
  ⟨s _ _ f.li, f.d1.same s, f.e1.same s, f.da.mono fun a h => scr_same s h, f.ea.mono fun a h => scr_same s h, f.dS, f.eS, f.dL, f.eL, f.nD, f.np, f.nS, f.st.same s, f.tb.ext s⟩
theorem Two.but (f : Two K C T S L d e H) (b : But S H H') (st : StAt K S H') : Two K C T S L d e H' :=
  ⟨b _ _ f.nS f.li, f.d1.but f.st f.dS b, f.e1.but f.st f.eS b, f.da.mono fun a h => b.scr a h, f.ea.mono fun a h => b.scr a h, f.dS, f.eS, f.dL, f.eL, f.nD, f.np, f.nS, st, tabs_but f.tb b f.st⟩
theorem kp3_li {o : Sd} {xs : List V} (n1 : L ≠ S) (n2 : L ≠ o.D) (g : SdAt K C H o) (u : Kp3 S o.D o.p H H') (e : H L = some (.lst xs)) : H' L = some (.lst xs) := by
  obtain ⟨dx, hp⟩ := g.rd.ob
  exact u _ _ n1 n2 (fun z => by rw [z, hp] at e; cases e) (fun _ z => (nomatch z)) e
/-- the first one is looked at -/
theorem Two.fst {d' : Sd} (f : Two K C T S L d e H) (eD : d'.D = d.D) (ep : d'.p = d.p) (h : SdAt K C H' d') (st : StAt K S H') (tb : Tabs T H') (sc : ∀ a, Scr H S a → Scr H' S a) (u : Kp3 S d.D d.p H H') : Two K C T S L d' e H' :=
  ⟨by rw [eD]; exact kp3_li f.nS (Ne.symm f.dL) f.d1 u f.li, h, f.e1.kp3 f.d1 f.st.is f.eS (Ne.symm f.nD) (Ne.symm f.np) u, by rw [eD]; exact f.da.mono sc, f.ea.mono sc, by rw [eD]; exact f.dS, f.eS, by rw [eD]; exact f.dL, f.eL, by rw [eD]; exact f.nD, by rw [ep]; exact f.np, f.nS, st, tb⟩
theorem Two.snd {e' : Sd} (f : Two K C T S L d e H) (eD : e'.D = e.D) (ep : e'.p = e.p) (h : SdAt K C H' e') (st : StAt K S H') (tb : Tabs T H') (sc : ∀ a, Scr H S a → Scr H' S a) (u : Kp3 S e.D e.p H H') : Two K C T S L d e' H' :=
  ⟨by rw [eD]; exact kp3_li f.nS (Ne.symm f.eL) f.e1 u f.li, f.d1.kp3 f.e1 f.st.is f.dS f.nD f.np u, h, f.da.mono sc, by rw [eD]; exact f.ea.mono sc, f.dS, by rw [eD]; exact f.eS, f.dL, by rw [eD]; exact f.eL, by rw [eD]; exact f.nD, by rw [ep]; exact f.np, f.nS, st, tb⟩
end
/-- what goes on to hold while a side is looked at -/
structure Fx (K : PySem.W.Frag) (C : Addr) (T : List (Addr × Str)) (S : Addr) (d : Sd) (H H' : Hp) : Prop where
  sd : SdAt K C H' d
  st : StAt K S H'
  tb : Tabs T H'
  sc : ∀ a, Scr H S a → Scr H' S a
  kp : Kp3 S d.D d.p H H'
section
variable {K : PySem.W.Frag} {C : Addr} {T : List (Addr × Str)} {S : Addr} {d : Sd} {H H1 H2 : Hp}
theorem Fx.same (f : Fx K C T S d H H1) (s : Same H1 H2) : Fx K C T S d H H2 := ⟨f.sd.same s, f.st.same s, f.tb.ext s, fun a h => scr_same s (f.sc a h), f.kp.trans (.same s)⟩
theorem Fx.ext (f : Fx K C T S d H H1) (s : ExtN H1 H2) (t : Tabs T H2) : Fx K C T S d H H2 := ⟨f.sd.ext s, f.st.ext s, t, fun a h => scr_ext s (f.sc a h), f.kp.trans (.ext s)⟩
theorem Fx.but (f : Fx K C T S d H H1) (n : d.D ≠ S) (b : But S H1 H2) (st : StAt K S H2) : Fx K C T S d H H2 := ⟨f.sd.but f.st n b, st, tabs_but f.tb b f.st, fun a h => b.scr a (f.sc a h), f.kp.trans (.but b)⟩
end
def toldV (long : Int) : Option Int → V
  | some g => .int (long + g)
  | none => .str "NoGap"
def toldN (long : Int) : Option Int → Int
  | some g => long + g
  | none => long
end Lx

namespace Lx
open PySem PySem.Spec PyProof.Rows L2 LamX NdefX
/-! ### lambdas whose frame has ended: their cells are tracked -/
/-- the object at c is a cell that holds v -/
def CelO (c : Addr) (v : V) : HO := .ext fun h => ∃ u, L2.RelV v u ∧ h.IsCell c (some u)
structure CellsT (cl : List (Str × Addr)) (fr : List Str) (ws : List (Option V)) (H : Hp) : Prop where
  len : ws.length = fr.length
  all : ∀ y c, cl.lookup y = some c → ∃ v, H c = some (CelO c v)
  inj : ∀ x y c, cl.lookup x = some c → cl.lookup y = some c → x = y
  has : ∀ (i : Nat) (y : Str), fr[i]? = some y → ∃ c v, cl.lookup y = some c ∧ H c = some (CelO c v) ∧ ws[i]? = some (some v)
def inC (cl : List (Str × Addr)) (b : Addr) : Bool := cl.any fun q => decide (cl.lookup q.1 = some b)
theorem inC_iff {cl : List (Str × Addr)} {b : Addr} : inC cl b = true ↔ ∃ y, cl.lookup y = some b := by
  unfold inC
  rw [List.any_eq_true]
  exact ⟨fun ⟨q, _, h⟩ => ⟨q.1, of_decide_eq_true h⟩, fun ⟨y, h⟩ => ⟨(y, b), PySem.mem_of_lookup h, decide_eq_true h⟩⟩
/-- the cells forgotten; the cells as they stood in H -/
def mn (cl : List (Str × Addr)) (H : Hp) : Hp := fun b => if inC cl b = true then none else H b
def pl (cl : List (Str × Addr)) (H H' : Hp) : Hp := fun b => if inC cl b = true then H b else H' b
theorem mn_in {cl : List (Str × Addr)} {H : Hp} {b : Addr} (h : inC cl b = true) : mn cl H b = none := if_pos h
theorem mn_out {cl : List (Str × Addr)} {H : Hp} {b : Addr} (h : ¬ inC cl b = true) : mn cl H b = H b := if_neg h
theorem pl_in {cl : List (Str × Addr)} {H H' : Hp} {b : Addr} (h : inC cl b = true) : pl cl H H' b = H b := if_pos h
theorem pl_out {cl : List (Str × Addr)} {H H' : Hp} {b : Addr} (h : ¬ inC cl b = true) : pl cl H H' b = H' b := if_neg h
theorem CellsT.at_ {cl : List (Str × Addr)} {fr : List Str} {ws : List (Option V)} {H : Hp} (C : CellsT cl fr ws H) {b : Addr} (h : inC cl b = true) : ∃ v, H b = some (CelO b v) := by
  obtain ⟨y, e⟩ := inC_iff.mp h
  exact C.all y b e
/-- what isn't another thing stands outside -/
theorem CellsT.out {cl : List (Str × Addr)} {fr : List Str} {ws : List (Option V)} {H : Hp} (C : CellsT cl fr ws H) {b : Addr} {o : HO} (e : H b = some o) (n : ∀ φ, o ≠ .ext φ) : ¬ inC cl b = true := fun h => by
  obtain ⟨v, z⟩ := C.at_ h
  rw [e] at z
  exact n _ (Option.some.inj z)
theorem CellsT.outN {cl : List (Str × Addr)} {fr : List Str} {ws : List (Option V)} {H : Hp} (C : CellsT cl fr ws H) {b : Addr} (e : H b = none) : ¬ inC cl b = true := fun h => by
  obtain ⟨v, z⟩ := C.at_ h
  rw [e] at z; cases z
theorem CellsT.keep {cl : List (Str × Addr)} {fr : List Str} {ws : List (Option V)} {H H' : Hp} (C : CellsT cl fr ws H) (k : ∀ b v, H b = some (CelO b v) → H' b = some (CelO b v)) : CellsT cl fr ws H' :=
  ⟨C.len, fun y c e => by obtain ⟨v, z⟩ := C.all y c e; exact ⟨v, k _ _ z⟩, C.inj, fun i y e => by obtain ⟨c, v, h1, h2, h3⟩ := C.has i y e; exact ⟨c, v, h1, k _ _ h2, h3⟩⟩
theorem mn_stay {P : Program} {w : World} {cl : List (Str × Addr)} {fr : List Str} {ws : List (Option V)} {H : Hp} {h : Heap} (C : CellsT cl fr ws H) (ok : HOk P w H h) : HOk P w (mn cl H) h := fun b o e => by
  have nb : ¬ inC cl b = true := fun z => by rw [mn_in z] at e; cases e
  rw [mn_out nb] at e
  exact (ok b o e).stay (fun _ _ _ q => q) (fun c q => by rw [mn_out (C.out q fun _ z => (nomatch z))]; exact q) fun c xs q => by rw [mn_out (C.out q fun _ z => (nomatch z))]; exact q
theorem cel_at {P : Program} {w : World} {H : Hp} {h : Heap} {c : Addr} {v : V} (ok : HOk P w H h) (e : H c = some (CelO c v)) : ∃ u, L2.RelV v u ∧ h.IsCell c (some u) := (ok c _ e).1
theorem cel_ok {P : Program} {w : World} {H : Hp} {h : Heap} {c : Addr} {v : V} {u : Value} (r : L2.RelV v u) (z : h.IsCell c (some u)) : L2.ObjOk P w H h c (CelO c v) := by
  obtain ⟨o, ho, hd⟩ := z
  refine ⟨⟨u, r, o, ho, hd⟩, ⟨o, ho⟩, fun h1 h2 ⟨u', r', o', e', d'⟩ st => ⟨u', r', o', st _ e', d'⟩⟩
section
variable {P : Program} {w : World} {K : PySem.W.Frag} {mg : Str → Option Value} {base : Heap} {k : Nat} {f : Addr} {F : NF} {eb : Expr} {fr : List Str} {sp : List (Option V) → Hp → VK → XK → Prop}
theorem LOk.track (L : LOk P w K mg base (L2.CX P w) k f F eb fr sp) {A : Around} {outer : List Env} {s : Shared} {H : Hp} {ws : List (Option V)} {Q : VK} {E : XK} (hr : Room k A) (e0 : Env0 P w K mg base A outer s H) (hf : H f = some (LmO f F eb)) (hc : H F.c = some (CodeO F.c F.qual))
    (C : CellsT F.cl fr ws H) (h : sp ws (mn F.cl H) (fun v H' => Q v (pl F.cl H H')) (fun cls d H' => E cls d (pl F.cl H H'))) : codeAny (model P w) A (.call (.ref f) ⟨[], []⟩) (CR (L2.CX P w) outer P w H s Q E) s := by
  have nf : ¬ inC F.cl f = true := fun z => by
    obtain ⟨v, e⟩ := C.at_ z
    obtain ⟨u, _, o, ho, hd⟩ := cel_at e0.hok e
    obtain ⟨pm, ctv, ho'⟩ := lmO_at e0.hok hf
    rw [ho] at ho'
    have := Option.some.inj ho'
    rw [this] at hd
    cases hd
  have nc : ¬ inC F.cl F.c = true := fun z => by
    obtain ⟨v, e⟩ := C.at_ z
    obtain ⟨u, _, o, ho, hd⟩ := cel_at e0.hok e
    obtain ⟨⟨oc, vs, t, h1, h2, _⟩, _⟩ := e0.hok _ _ hc
    rw [ho] at h1
    have := Option.some.inj h1
    rw [← this, hd] at h2
    cases h2
  have e1 : Env0 P w K mg base A outer s (mn F.cl H) := by
    refine ⟨e0.frames, e0.mod, fun b o e => ⟨(e0.bs b o e).1, ?_⟩, e0.bsz, e0.funs, fun b hb => ?_, mn_stay C e0.hok, e0.bare⟩
    · rw [mn_out (C.outN (e0.bs b o e).2)]; exact (e0.bs b o e).2
    · rw [mn_out (C.outN (e0.frf b hb))]; exact e0.frf b hb
  have cells : CellsAt F.cl fr ws s.heap (mn F.cl H) := by
    refine ⟨C.len, fun y c e => ?_, C.inj, fun i y e => ?_⟩
    · obtain ⟨v, z⟩ := C.all y c e
      obtain ⟨u, _, q⟩ := cel_at e0.hok z
      exact ⟨mn_in (inC_iff.mpr ⟨y, e⟩), _, q⟩
    · obtain ⟨c, v, h1, h2, h3⟩ := C.has i y e
      obtain ⟨u, r, q⟩ := cel_at e0.hok h2
      refine ⟨c, h1, fun v' ev => ?_⟩
      rw [h3] at ev
      have ev := Option.some.inj (Option.some.inj ev)
      subst ev
      exact ⟨u, r, q⟩
  have nfr : ∀ b, inC F.cl b = true → b ∉ frs outer := fun b z hb => by
    obtain ⟨v, e⟩ := C.at_ z
    rw [e0.frf b hb] at e; cases e
  have back : ∀ b, H b = none → mn F.cl H b = none := fun b n => by rw [mn_out (C.outN n)]; exact n
  refine codeAny_mono (L.run A outer s (mn F.cl H) ws _ _ hr e1 (by rw [mn_out nf]; exact hf) (by rw [mn_out nc]; exact hc) cells h) fun r s' z => ?_
  cases r with
  | error e =>
    obtain ⟨a, B, H', cls, d, rfl, fl, hok, ub, na, os, ag, q⟩ := z
    have cellB : ∀ b, inC F.cl b = true → ∃ v, H b = some (CelO b v) ∧ (∃ u, L2.RelV v u ∧ B.IsCell b (some u)) ∧ H' b = none := fun b hb => by
      obtain ⟨v, e⟩ := C.at_ hb
      obtain ⟨u, r, o, ho, hd⟩ := cel_at e0.hok e
      exact ⟨v, e, ⟨u, r, o, ub.keep b o ho (mn_in hb) (nfr b hb), hd⟩, ub.free b o ho (mn_in hb)⟩
    refine ⟨a, B, pl F.cl H H', cls, d, rfl, fl, fun b o e => ?_, ⟨fun b o e n hb => ub.keep b o e (back b n) hb, ub.slot, fun b o e n => ?_, ub.there, fun b xs e => ?_, fun b o xs e => ?_, fun b ps e => ?_⟩, ?_, os, ag, q⟩
    · by_cases hb : inC F.cl b = true
      · rw [pl_in hb] at e
        obtain ⟨v, e', ⟨u, r, z⟩, _⟩ := cellB b hb
        rw [e'] at e
        have e := Option.some.inj e
        subst e
        exact cel_ok r z
      · rw [pl_out hb] at e
        have pk : ∀ c o, H' c = some o → pl F.cl H H' c = some o := fun c o q => by
          by_cases hc : inC F.cl c = true
          · obtain ⟨_, _, _, n⟩ := cellB c hc
            rw [n] at q; cases q
          · rw [pl_out hc]; exact q
        exact (hok b o e).stay (fun _ _ _ q => q) (fun c q => pk _ _ q) fun c xs q => pk _ _ q
    · rw [pl_out (C.outN n)]; exact ub.free b o e (back b n)
    · have nb := C.out e fun _ z => (nomatch z)
      rw [pl_out nb]; exact ub.tups b xs (by rw [mn_out nb]; exact e)
    · have nb := C.out e fun _ z => (nomatch z)
      rw [pl_out nb]; exact ub.frzs b o xs (by rw [mn_out nb]; exact e)
    · have nb := C.out e fun _ z => (nomatch z)
      rw [pl_out nb]; exact ub.tbls b ps (by rw [mn_out nb]; exact e)
    · by_cases ha : inC F.cl a = true
      · obtain ⟨_, _, ⟨_, _, o, ho, _⟩, _⟩ := cellB a ha
        rw [fl.2.1] at ho; cases ho
      · rw [pl_out ha]; exact na
  | ok fl =>
    cases fl with
    | next => exact z.elim
    | brk => exact z.elim
    | cont => exact z.elim
    | ret u =>
      obtain ⟨v, H', os, ag, un, hok, rv, q⟩ := z
      have cellB : ∀ b, inC F.cl b = true → ∃ v, H b = some (CelO b v) ∧ (∃ u, L2.RelV v u ∧ s'.heap.IsCell b (some u)) ∧ H' b = none := fun b hb => by
        obtain ⟨v, e⟩ := C.at_ hb
        obtain ⟨u, r, o, ho, hd⟩ := cel_at e0.hok e
        exact ⟨v, e, ⟨u, r, o, un.keep b o ho (mn_in hb) (nfr b hb) (fun z => nomatch z), hd⟩, un.free b o ho (mn_in hb) (fun z => nomatch z)⟩
      refine ⟨v, pl F.cl H H', os, ag, ⟨fun b o e n h1 h2 => un.keep b o e (back b n) h1 h2, fun b o e n h1 h2 => un.slot b o e (back b n) h1 h2, fun b o e n h2 => ?_, un.there, fun b xs e => ?_, fun b o xs e => ?_, fun b ps e => ?_⟩, fun b o e => ?_, rv, q⟩
      · rw [pl_out (C.outN n)]; exact un.free b o e (back b n) h2
      · have nb := C.out e fun _ z => (nomatch z)
        rw [pl_out nb]; exact un.tups b xs (by rw [mn_out nb]; exact e)
      · have nb := C.out e fun _ z => (nomatch z)
        rw [pl_out nb]; exact un.frzs b o xs (by rw [mn_out nb]; exact e)
      · have nb := C.out e fun _ z => (nomatch z)
        rw [pl_out nb]; exact un.tbls b ps (by rw [mn_out nb]; exact e)
      · by_cases hb : inC F.cl b = true
        · rw [pl_in hb] at e
          obtain ⟨v, e', ⟨u, r, z⟩, _⟩ := cellB b hb
          rw [e'] at e
          have e := Option.some.inj e
          subst e
          exact cel_ok r z
        · rw [pl_out hb] at e
          have pk : ∀ c o, H' c = some o → pl F.cl H H' c = some o := fun c o q => by
            by_cases hc : inC F.cl c = true
            · obtain ⟨_, _, _, n⟩ := cellB c hc
              rw [n] at q; cases q
            · rw [pl_out hc]; exact q
          exact (hok b o e).stay (fun _ _ _ q => q) (fun c q => pk _ _ q) fun c xs q => pk _ _ q
end
/-! ### what may be called without arguments -/
structure Cal (P : Program) (w : World) (K : PySem.W.Frag) (mg : Str → Option Value) (base : Heap) (k : Nat) (f : Addr) (spc : Hp → VK → XK → Prop) : Prop where
  run : ∀ (A : Around) (outer : List Env) (s : Shared) (H : Hp) (Q : VK) (E : XK), Room k A → Env0 P w K mg base A outer s H → spc H Q E → codeAny (model P w) A (.call (.ref f) ⟨[], []⟩) (CR (L2.CX P w) outer P w H s Q E) s
  fn : ∀ H Q E, spc H Q E → ∃ F eb, H f = some (LmO f F eb)
/-- a lambda and its tracked cells, its promise -/
def spTr (f : Addr) (F : NF) (eb : Expr) (fr : List Str) (ws : List (Option V)) (sp : List (Option V) → Hp → VK → XK → Prop) : Hp → VK → XK → Prop := fun H Q E =>
  H f = some (LmO f F eb) ∧ H F.c = some (CodeO F.c F.qual) ∧ CellsT F.cl fr ws H ∧ sp ws (mn F.cl H) (fun v H' => Q v (pl F.cl H H')) (fun cls d H' => E cls d (pl F.cl H H'))
theorem LOk.cal {P : Program} {w : World} {K : PySem.W.Frag} {mg : Str → Option Value} {base : Heap} {k : Nat} {f : Addr} {F : NF} {eb : Expr} {fr : List Str} {ws : List (Option V)} {sp : List (Option V) → Hp → VK → XK → Prop} (L : LOk P w K mg base (L2.CX P w) k f F eb fr sp) :
    Cal P w K mg base k f (spTr f F eb fr ws sp) :=
  ⟨fun A outer s H Q E hr e0 h => L.track hr e0 h.1 h.2.1 h.2.2.1 h.2.2.2, fun H Q E h => ⟨_, _, h.1⟩⟩
def tCal (i : Nat) (f : Addr) (spc : Hp → VK → XK → Prop) (W : WX) : TE := fun σ H Q => σ[i]? = some (some (.ref f)) ∧ spc H Q (WE W σ)
theorem pe_calcall {Z : Cx} {f : Addr} {spc : Hp → VK → XK → Prop} {k i : Nat} {a : Str} {W : WX} {p1 p2 : Pos} (L : Cal Z.prog Z.w Z.K Z.mg Z.base k f spc) (hr : Room k Z.A)
    (tk : Takes Z W) (hN : Z.N[i]? = some a) (hv : Vis Z.env.scope a) (hd : (a == ("__debug__" : Str)) = false := by decide) (hcd : (a == ("__classdict__" : Str)) = false := by decide) :
    PE Z (.Call (.Name a p1) [] [] p2) (tCal i f spc W) := by
  refine ⟨fun pins s σ H Q I h => ?_⟩
  obtain ⟨hs, q⟩ := h
  refine wpAny_Call_Name_kw ?_
  refine thn ((pe_var (pos := p1) hN hv hd hcd).run pins s σ H (fun v H1 => v = .ref f ∧ H1 = H) I ⟨.ref f, hs, rfl, rfl⟩) ?_
  intro u s1 z
  obtain ⟨v, H1, I1, r1, rfl, rfl⟩ := z
  obtain rfl : u = Value.ref f := r1
  obtain ⟨F, eb, hf⟩ := L.fn _ _ _ q
  obtain ⟨pm, ctv, ho⟩ := lmO_at I1.hok hf
  refine PySem.W.callWith_F0 (first := []) ⟨_, _, _, _, ho⟩ ?_
  have run := L.run Z.A Z.stack s1 H1 Q (WE W σ) hr I1.env0 q
  refine wpAny_call (codeAny_mono run fun r s' z => ?_)
  cases r with
  | error e => exact passAt tk σ pins H1 s1 e s' I1 z
  | ok fl =>
    cases fl with
    | ret u => exact I1.after z
    | next => exact z.elim
    | brk => exact z.elim
    | cont => exact z.elim
structure TakesCal (P : Program) (w : World) (K : PySem.W.Frag) (mg : Str → Option Value) (base : Heap) (k j : Nat) (g : Addr) (TT : TTy) : Prop where
  run : ∀ (A : Around) (outer : List Env) (s : Shared) (H : Hp) (f : Addr) (spc : Hp → VK → XK → Prop) (Q : VK), Room k A → Env0 P w K mg base A outer s H →
    Cal P w K mg base j f spc → TT (fun E HZ QZ => spc HZ QZ E) H Q → codeAny (model P w) A (.call (.ref g) ⟨[.ref f], []⟩) (CR L2.CX0 outer P w H s Q L2.E0) s
theorem takesCal_of {P : Program} {w : World} {K : PySem.W.Frag} {mg : Str → Option Value} {base : Heap} {k j : Nat} {g : Addr} {TT : TTy}
    {x a : Str} {st : Stmt} {fd : FuncData} {Ng : List Str} (D : L2.Fun K x x st g fd) (hb : L2.Binds K fd [a] []) (Sg : FnScope Ng [a] (defScope st))
    (hbody : ∀ (cdv : Value) (A : Around) (outer : List Env) (s : Shared) (H : Hp) (f : Addr) (spc : Hp → VK → XK → Prop) (Q : VK), Room k (A.deeper (envOfC x (defScope st) s.heap.objs.size g cdv)) →
      Cal P w K mg base j f spc → TT (fun E HZ QZ => spc HZ QZ E) H Q →
      ∃ t, PSs (cxOf L2.CX0 P w K mg base Ng x (defScope st) g cdv A outer s H L2.E0).nox (defBody st) t ∧
        t { nx := fun _ H' => Q .non H', rt := Q } (L2.start Ng [.ref f]) H) :
    TakesCal P w K mg base (k + 1) j g TT := by
  obtain ⟨oc, od, kV, doc, pm, an, cdv, ct, osl, rfl, lk, hcd⟩ := D.ex
  refine ⟨fun A outer s H f spc Q hr e0 L q => ?_⟩
  have KX : K.In s.heap := e0.mod.kin.keeps fun b o e => (e0.bs b o e).1
  refine run_ofS (N := Ng) (ps := [a]) (us := [.ref f]) (vs := [.ref f]) lk hcd Sg hr e0 (hb s [.ref f] KX rfl) (.cons rfl .nil) rfl fun hr' => ?_
  obtain ⟨t, h1, h2⟩ := hbody cdv A outer s H f spc Q hr' L q
  exact ⟨t, h1.nox, h2⟩
def tKindC (P : Program) (w : World) (K : PySem.W.Frag) (mg : Str → Option Value) (base : Heap) (j : Nat) (TT : TTy) (ta : TE) : TE := fun σ H Q => ta σ H fun v H1 => ∃ (f : Addr) (spc : Hp → VK → XK → Prop), v = .ref f ∧ Cal P w K mg base j f spc ∧ TT (fun E HZ QZ => spc HZ QZ E) H1 Q
theorem pe_kindC {P : Program} {w : World} {K : PySem.W.Frag} {mg : Str → Option Value} {base : Heap} {Z : Cx} {k j : Nat} {g : Addr} {TT : TTy} {x : Str} {a : Expr} {ta : TE} {p pos : Pos}
    (G : TakesCal P w K mg base k j g TT) (hZ : Z.prog = P ∧ Z.w = w ∧ Z.K = K ∧ Z.mg = mg ∧ Z.base = base) (hr : Room k Z.A)
    (hg : Gl Z x) (hm : Z.mg x = some (.ref g)) (hk : PySem.W.keepIn Z.K (.ref g) = true) (ha : PE Z a ta)
    (hdb : (x == ("__debug__" : Str)) = false := by decide) (he : starEach (a :: []) Z.env = (false, eval a Z.env) :: starEach [] Z.env := by rfl)
    (hpl : (backTo pos (starEach [] Z.env)).any (·.1) = false := by rfl) :
    PE Z (.Call (.Name x p) [a] [] pos) (tKindC P w K mg base j TT ta) := by
  obtain ⟨rfl, rfl, rfl, rfl, rfl⟩ := hZ
  refine ⟨fun pins s σ H Q I h => ?_⟩
  refine wpAny_Call_Name_kw (ld_glob I hg hm ?_ hdb)
  have pa : PA Z [a] (tCons ta tNil) := pa_cons ha pa_nil he
  refine PySem.W.callWith_K (h₀ := Z.base) I.ok.mod.kin hk (thn (pa.run pos pins s σ H
    (fun vs H1 => ∃ v, vs = [v] ∧ ∃ (f : Addr) (spc : Hp → VK → XK → Prop), v = .ref f ∧ Cal Z.prog Z.w Z.K Z.mg Z.base j f spc ∧ TT (fun E HZ QZ => spc HZ QZ E) H1 Q) I ?_) ?_) he hpl
  · exact (show ta σ H fun v H1 => tNil σ H1 fun vs H2 => ∃ v', v :: vs = [v'] ∧ ∃ (f : Addr) (spc : Hp → VK → XK → Prop), v' = .ref f ∧ Cal Z.prog Z.w Z.K Z.mg Z.base j f spc ∧ TT (fun E HZ QZ => spc HZ QZ E) H2 Q from by
      have e : (fun (v : V) (H1 : Hp) => tNil σ H1 fun vs H2 => ∃ v', v :: vs = [v'] ∧ ∃ (f : Addr) (spc : Hp → VK → XK → Prop), v' = .ref f ∧ Cal Z.prog Z.w Z.K Z.mg Z.base j f spc ∧ TT (fun E HZ QZ => spc HZ QZ E) H2 Q)
          = fun v H1 => ∃ (f : Addr) (spc : Hp → VK → XK → Prop), v = .ref f ∧ Cal Z.prog Z.w Z.K Z.mg Z.base j f spc ∧ TT (fun E HZ QZ => spc HZ QZ E) H1 Q := by
        funext v H1
        refine propext ⟨fun ⟨v', e, z⟩ => ?_, fun z => ⟨v, rfl, z⟩⟩
        have e' : v = v' := by injection e
        rw [e']; exact z
      rw [e]; exact h)
  intro us s1 z
  obtain ⟨vs, H1, I1, r, v, rfl, f, spc, rfl, L, q⟩ := z
  refine ⟨I1.kIn, ?_⟩
  cases r with
  | cons r1 rn =>
    rename_i u us
    cases rn
    obtain rfl : u = Value.ref f := r1
    show wpAny _ _ (call (.ref g) [.ref f]) _ _ _
    refine wpAny_call (codeAny_mono (G.run Z.A Z.stack s1 H1 f spc Q hr I1.env0 L q) fun r s' z => ?_)
    cases r with
    | error e => exact z.elim
    | ok fl =>
      cases fl with
      | ret u => exact I1.after z
      | next => exact z.elim
      | brk => exact z.elim
      | cont => exact z.elim
/-! ### a def that ends by its only return, its slots then told -/
def SPR (X : Cx) (pins : List (Addr × Obj)) (R : L2.St → V → Hp → Prop) (f : Flow) (s' : Shared) : Prop :=
  match f with
  | .ret u => ∃ v σ' H', Inv X pins σ' H' s' ∧ L2.RelV v u ∧ R σ' v H'
  | _ => False
structure PSsR (X : Cx) (st : List Stmt) (t : (L2.St → V → Hp → Prop) → L2.St → Hp → Prop) : Prop where
  run : ∀ (pins : List (Addr × Obj)) (s : Shared) (σ : L2.St) (H : Hp) (R : L2.St → V → Hp → Prop), Inv X pins σ H s → t R σ H → wpAny (model X.prog X.w) X.A (execs st X.env) (SPR X pins R) X.xe s
theorem psr_cons {X : Cx} {st : Stmt} {rest : List Stmt} {t : TS} {u : (L2.St → V → Hp → Prop) → L2.St → Hp → Prop} (h1 : PS X st t) (h2 : PSsR X rest u) :
    PSsR X (st :: rest) (fun R σ H => t { nx := u R, rt := fun _ _ => False } σ H) := by
  refine ⟨fun pins s σ H R I h => ?_⟩
  refine wpAny_execs_cons (thn (h1.run pins s σ H { nx := u R, rt := fun _ _ => False } I h) fun f s1 q => ?_)
  cases f with
  | next =>
    obtain ⟨σ', H', I', q⟩ := q
    exact h2.run pins s1 σ' H' R I' q
  | ret v => obtain ⟨_, _, _, _, _, q⟩ := q; exact q.elim
  | brk => obtain ⟨_, _, _, q⟩ := q; exact q.elim
  | cont => obtain ⟨_, _, _, q⟩ := q; exact q.elim
theorem psr_ret {X : Cx} {e : Expr} {te : TE} {pos : Pos} (he : PE X e te) : PSsR X [.Return (some e) pos] (fun R σ H => te σ H (R σ)) := by
  refine ⟨fun pins s σ H R I h => ?_⟩
  exact wpAny_execs_cons (wpAny_Return_some (thn (he.run pins s σ H _ I h) fun v s1 ⟨x, H1, I1, r1, q1⟩ => ⟨x, σ, H1, I1, r1, q1⟩))
end Lx

namespace Lx
open PySem PySem.Spec PyProof.Rows L2 LamX NdefX
/-- H1: as H, and the cells of the frame told -/
structure TrkAt (X : Cx) (σ : L2.St) (H H1 : Hp) : Prop where
  out : ∀ b, (∀ y, X.env.cells.lookup y ≠ some b) → H1 b = H b
  non : ∀ y c, X.env.cells.lookup y = some c → H c = none
  cel : ∀ (i : Nat) (y : Str) (c : Addr) (x : V), X.N[i]? = some y → X.env.cells.lookup y = some c → σ[i]? = some (some x) → H1 c = some (CelO c x)
  all : ∀ y c, X.env.cells.lookup y = some c → ∃ (i : Nat) (x : V), X.N[i]? = some y ∧ σ[i]? = some (some x)
theorem TrkAt.keep {X : Cx} {σ : L2.St} {H H1 : Hp} (t : TrkAt X σ H H1) {b : Addr} {o : HO} (e : H b = some o) : H1 b = some o := by
  by_cases h : ∃ y, X.env.cells.lookup y = some b
  · obtain ⟨y, z⟩ := h
    rw [t.non y b z] at e; cases e
  · rw [t.out b fun y z => h ⟨y, z⟩]; exact e
theorem TrkAt.cells {X : Cx} {σ : L2.St} {H H1 : Hp} (t : TrkAt X σ H H1) (ok : X.Ok) (nd : X.N.Nodup) {cl : List (Str × Addr)} {fr : List Str} {js : List Nat} (c : Caps X cl fr js) : CellsT cl fr (js.map (slotAt σ)) H1 := by
  refine ⟨?_, fun y a e => ?_, fun x y a e1 e2 => ok.inj x y a (c.sub x a e1) (c.sub y a e2), fun i y e => ?_⟩
  · have q := congrArg List.length c.at_
    rw [List.length_map, List.length_map] at q
    rw [List.length_map]
    exact q
  · have e' := c.sub y a e
    obtain ⟨i, x, h1, h2⟩ := t.all y a e'
    exact ⟨x, t.cel i y a x h1 e' h2⟩
  · have e2 : (js.map fun j => X.N[j]?)[i]? = some (some y) := by
      rw [c.at_, List.getElem?_map, e] <;> rfl
    rw [List.getElem?_map] at e2
    cases ej : js[i]? with
    | none => rw [ej] at e2; cases e2
    | some j =>
      rw [ej] at e2
      have hj : X.N[j]? = some y := Option.some.inj (show some (X.N[j]?) = some (some y) from e2)
      have k := c.kin y (List.mem_of_getElem? e)
      obtain ⟨a, ha⟩ : ∃ a, X.env.cells.lookup y = some a := k.elim (fun z => ok.has y (.inl z)) fun z => ok.has y (.inr z)
      obtain ⟨i2, x, h1, h2⟩ := t.all y a ha
      have w := c.sup y (List.mem_of_getElem? e) a ha
      obtain rfl : j = i2 := nodup_ix nd hj h1
      refine ⟨a, x, w, t.cel j y a x hj ha h2, ?_⟩
      rw [List.getElem?_map, ej]
      show some (NdefX.slotAt σ j) = some (some x)
      have : NdefX.slotAt σ j = some x := by
        unfold NdefX.slotAt
        rw [h2]
      rw [this]
/-- the rule for a def whose frame's cells are told behind its end -/
theorem fn_ofT {CX : CXT} {P : Program} {w : World} {K : PySem.W.Frag} {mg : Str → Option Value} {base : Heap} {k : Nat} {f : Addr} {name qual : Str} {params : Arguments} {body : List Stmt} {scope : Scope} {dV kV doc pm cdv ct oc : Value} {an od : Option Addr}
    {osl : Array (Option Value)} {N ps : List Str} {sp : Sp} (lk : K.lookup f = some ⟨oc, od, .func (PySem.W.fnOf name qual params body scope dV kV doc pm an cdv ct), osl⟩) (hcd : PySem.W.codeIn K cdv qual = true) (S : FnScope N ps scope)
    (len : ∀ vs H Q E, sp vs H Q E → vs.length = ps.length)
    (hbody : ∀ (A : Around) (outer : List Env) (s : Shared) (H : Hp) (vs : List V) (Q : VK) (E : XK), Room k (A.deeper (envOfC qual scope s.heap.objs.size f cdv)) → sp vs H Q E →
      ∃ t, PSsR (cxOf CX P w K mg base N qual scope f cdv A outer s H E) body t ∧
        t (fun σ v H' => (∀ y, scope.names.lookup y = some .cell → ∃ (i : Nat) (x : V), N[i]? = some y ∧ σ[i]? = some (some x)) ∧
          ∀ H1, (cxOf CX P w K mg base N qual scope f cdv A outer s H E).Ok → TrkAt (cxOf CX P w K mg base N qual scope f cdv A outer s H E) σ H' H1 → Q v H1) (start N vs) H)
    (hcell : ∀ y ∈ scope.names, scope.names.lookup y.1 = some y.2) :
    FnOk P w K mg base CX (k + 1) f (PySem.W.fnOf name qual params body scope dV kV doc pm an cdv ct) ps sp := by
  refine ⟨len, fun A outer s H args us vs Q E hr e0 hb r hsp => ?_⟩
  have hl := len _ _ _ _ hsp
  have KX : K.In s.heap := e0.mod.kin.keeps fun b o e => (e0.bs b o e).1
  have lim : s.heap.NoLimit := e0.mod.nolimit.keeps fun b o e => (e0.bs b o e).1
  have hkind : ∀ y ∈ ps.zip us, scope.names.lookup y.1 = some .local ∨ (scope.names.lookup y.1 = some .cell ∧ ((cellsFrom (s.heap.objs.size + 1) scope.names []).lookup y.1).isSome = true) := fun ⟨n, v⟩ hy => by
    rcases S.par n (List.of_mem_zip hy).1 with q | q
    · exact .inl q
    · exact .inr ⟨q, PySem.W.cellsFrom_some _ _ _ (.inl q)⟩
  refine codeAny_call_function hr.depth (KX _ _ lk) rfl S.co S.gen rfl (PySem.W.codeRec_of KX hcd) (hb _ _ _ _ ?_)
  refine wpAny_newFunctionEnv_cells S.kind hkind fun env he s1 x => ?_
  subst he
  refine ⟨lim.keeps x.toInCall.keep, codeAny_func ?_⟩
  obtain ⟨t, ht, hq⟩ := hbody A outer s H vs Q E (hr.deeper _) hsp
  have I : Inv (cxOf CX P w K mg base N qual scope f cdv A outer s H E) [] (start N vs) H s1 := inv_start S hr.hd e0 hl r x
  refine wpAny_mono (ht.run [] s1 (start N vs) H _ I hq) (fun fl s' hs => ?_) fun e s' hs => hs
  cases fl with
  | next => exact hs.elim
  | brk => exact hs.elim
  | cont => exact hs.elim
  | ret u =>
    obtain ⟨v, σ', H', J, rv, hknown, q⟩ := hs
    generalize hX : cxOf CX P w K mg base N qual scope f cdv A outer s H E = X at J q
    have eN : X.N = N := by rw [← hX]; rfl
    have eP : X.prog = P := by rw [← hX]; rfl
    have ew : X.w = w := by rw [← hX]; rfl
    have es : X.s_0 = s := by rw [← hX]; rfl
    have eH : X.H_0 = H := by rw [← hX]; rfl
    have eex : X.ex = [] := by rw [← hX]; rfl
    have efn : ∀ y, X.fn y = true := fun y => by rw [← hX]; rfl
    have eenv : X.env.scope = scope := by rw [← hX]; rfl
    have ecl : X.env.cells = cellsFrom (s.heap.objs.size + 1) scope.names [] := by rw [← hX]; rfl
    have efs : X.fs = frs outer := by rw [← hX]; rfl
    have isCell : ∀ y c, X.env.cells.lookup y = some c → scope.names.lookup y = some .cell := fun y c e => by
      rw [ecl] at e
      have hm := PySem.mem_of_lookup e
      have e2 : s.heap.objs.size + 1 = (s.heap.push { cls := .type "dict", data := .dict #[] }).objs.size := (Heap.size_push ..).symm
      rw [e2] at hm
      rcases cells_mem hm with h | ⟨h1, _⟩
      · cases h
      · exact hcell _ h1
    have known : ∀ y c, X.env.cells.lookup y = some c → ∃ (i : Nat) (z : V), X.N[i]? = some y ∧ σ'[i]? = some (some z) := fun y c e => by rw [eN]; exact hknown y (isCell y c e)
    have nd : X.N.Nodup := by rw [eN]; exact S.nd
    -- what each cell holds
    have hold : ∀ (i : Nat) (y : Str) (c : Addr) (z : V), X.N[i]? = some y → X.env.cells.lookup y = some c → σ'[i]? = some (some z) → ∃ u, L2.RelV z u ∧ s'.heap.IsCell c (some u) := fun i y c z h1 h2 h3 => by
      obtain ⟨m, hn, hl⟩ := J.loc
      obtain ⟨u, ru, lk⟩ := hl i y z h1 h3 (.inr (.inl (by rw [eenv]; exact isCell y c h2)))
      rcases lk with ⟨k1, _⟩ | ⟨_, c', k2, k3⟩
      · have k1 : X.env.scope.names.lookup y = some .local := k1
        rw [eenv, isCell y c h2] at k1; cases k1
      · rw [h2] at k2
        have k2 := Option.some.inj k2
        subst k2
        exact ⟨u, ru, k3⟩
    have low : ∀ y c, X.env.cells.lookup y = some c → s.heap.objs.size ≤ c := fun y c e => by
      have := J.ok.cab y c (efn y) e
      rw [es] at this
      exact this
    obtain ⟨H1, hH1⟩ : ∃ H1 : Hp, (∀ b, (∀ y, X.env.cells.lookup y ≠ some b) → H1 b = H' b) ∧ (∀ (i : Nat) (y : Str) (c : Addr) (z : V), X.N[i]? = some y → X.env.cells.lookup y = some c → σ'[i]? = some (some z) → H1 c = some (CelO c z)) := by
      classical
      refine ⟨fun b => if h : ∃ z : V, ∃ (i : Nat) (y : Str), X.N[i]? = some y ∧ X.env.cells.lookup y = some b ∧ σ'[i]? = some (some z) then some (CelO b (Classical.choose h)) else H' b, fun b hb => ?_, fun i y c z h1 h2 h3 => ?_⟩
      · refine dif_neg fun ⟨z, i, y, _, h2, _⟩ => hb y h2
      · have h : ∃ z : V, ∃ (i : Nat) (y : Str), X.N[i]? = some y ∧ X.env.cells.lookup y = some c ∧ σ'[i]? = some (some z) := ⟨z, i, y, h1, h2, h3⟩
        show (if h : _ then _ else _) = _
        rw [dif_pos h]
        obtain ⟨i2, y2, k1, k2, k3⟩ := Classical.choose_spec h
        obtain rfl : y = y2 := J.ok.inj y y2 c h2 k2
        obtain rfl : i = i2 := nodup_ix nd h1 k1
        rw [h3] at k3
        have k3 := Option.some.inj (Option.some.inj k3)
        rw [← k3]
    have T : TrkAt X σ' H' H1 := ⟨hH1.1, J.freeC, hH1.2, known⟩
    have q := q H1 J.ok T
    have base := J.base
    rw [eex, eH, es, efs] at base
    have hok := J.hok
    rw [eP, ew] at hok
    have old : ∀ b o, s.heap.get? b = some o → H1 b = H' b := fun b o e => hH1.1 b fun y z => Nat.lt_irrefl _ (Nat.lt_of_lt_of_le (Heap.lt_size e) (low y b z))
    have pk : ∀ c o, H' c = some o → H1 c = some o := fun c o e => T.keep e
    refine ⟨v, H1, J.os.trans (by rw [es]), J.bare, ⟨base.keep, base.slot, fun b o e n hx => ?_, base.there, fun b xs e => pk _ _ (base.tups b xs e), fun b o xs e => pk _ _ (base.frzs b o xs e), fun b qs e => ?_⟩, fun b o e => ?_, rv, q⟩
    · rw [old b o e]; exact base.free b o e n hx
    · obtain ⟨more, z⟩ := base.tbls b qs e
      exact ⟨more, pk _ _ z⟩
    · by_cases h : ∃ y, X.env.cells.lookup y = some b
      · obtain ⟨y, z⟩ := h
        obtain ⟨i, x, h1, h2⟩ := known y b z
        rw [hH1.2 i y b x h1 z h2] at e
        have e := Option.some.inj e
        subst e
        obtain ⟨u', ru, ic⟩ := hold i y b x h1 z h2
        exact cel_ok ru ic
      · rw [hH1.1 b fun y z => h ⟨y, z⟩] at e
        exact (hok b o e).stay (fun _ _ _ q => q) (fun c q => pk _ _ q) fun c xs q => pk _ _ q
end Lx

/-! lambdas as values: the other tables stay -/
namespace Lx
open PySem PySem.Spec PyProof.Rows L2 LamX NdefX
section
variable {X : Cx} {pins : List (Addr × Obj)} {σ : L2.St} {H : Hp} {s : Shared}
theorem lam_mk2 {T : List (Addr × Str)} {c P : Addr} {params : Arguments} {body : Expr} {scope : Scope} {pos : Pos}
    {E : Value → Shared → Prop} {Q : Value → Shared → Prop} (I : Inv X pins σ H s) (TB : TabB X.base X.mg c P)
    (hcode : X.env.code = .ref c) (hm : (P, X.env.qual ++ "<lambda>") ∈ T)
    (hu : ∀ p ∈ T, p.1 = P → p.2 = X.env.qual ++ "<lambda>") (hT : Tabs T H) (hdef : defaultsOf params X.env = ([], []))
    (hfree : ∀ y ∈ scope.names, y.2 = .free → ∃ c, X.env.cells.lookup y.1 = some c)
    (h : ∀ (f c' : Addr) (H1 : Hp) (s' : Shared), Inv X pins σ H1 s' → ExtN H H1 → Tabs T H1 → (∀ b ps, b ≠ P → H b = some (.tbl ps) → H1 b = some (.tbl ps)) → H f = none →
      H1 f = some (LmO f (lamNF X params scope c') body) → H1 c' = some (CodeO c' (X.env.qual ++ "<lambda>")) → Q (.ref f) s') :
    wpAny (model X.prog X.w) X.A (eval (.Lambda params body scope pos) X.env) Q E s := by
  obtain ⟨ps, hP, ht, ha⟩ := hT _ hm
  have bP := TB.bm.keeps I.bk
  have gP : s.heap.get? P = some { cls := .none, data := .fields ps } := I.hok P _ hP
  have code := TB.code.keeps I.bk
  have glob := I.mod.glob.keeps I.bk
  refine PySem.W.kla_eval hdef ?_
  cases hc : codeAmong pos ps.toList with
  | some cv =>
    obtain ⟨c', rfl, hco⟩ := ha pos cv hc
    refine PySem.W.kla_makeFunctionHit (mg := X.mg) (c := c) (P := P) (ps := ps) (closure_ok hfree) I.ok.glob glob hcode code gP ht hc bP ?_
    intro ctv h' tk old hsz
    have J : Inv X pins σ H { s with heap := h', toks := tk } := I.kept old
    have nF : H h'.objs.size = none := J.hok.fresh (Nat.le_refl _)
    have keep : ∀ b o, H b = some o → (upd H h'.objs.size (LmO h'.objs.size (lamNF X params scope c') body)) b = some o := by
      intro b o e
      exact (upd_ne (ne_of_none e nF)).trans e
    refine h h'.objs.size c' _ _ (inv_lm (F := lamNF X params scope c') (eb := body) (tk := tk) J) (ExtN.of keep) (hT.ext keep) (fun b ps' _ e => keep b _ e) nF upd_same (keep _ _ hco)
  | none =>
    refine PySem.W.kla_makeFunction (mg := X.mg) (c := c) (P := P) (ps := ps) (closure_ok hfree) I.ok.glob glob hcode code gP ht hc TB.gP bP ?_
    intro c' ctv h' tk hx hge hlt hrec htb
    obtain ⟨c2, oc, vs, t, e2, hoc, hd, hv⟩ := hrec
    cases e2
    have nC : H c' = none := I.hok.fresh hge
    have J := inv_table (t' := tk) (more := #[rawInt pos.line, rawInt pos.col, .ref c']) (h' := h') I hP
      (fun b o hb e => hx b o hb e) htb hge ⟨oc, vs, t, hoc, hd, hv⟩
    generalize hH1 : upd (upd H P (.tbl (ps ++ #[rawInt pos.line, rawInt pos.col, .ref c']))) c' (CodeO c' (X.env.qual ++ "<lambda>")) = H1 at J
    have ePc : P ≠ c' := ne_of_none hP nC
    have atc : H1 c' = some (CodeO c' (X.env.qual ++ "<lambda>")) := by rw [← hH1]; exact upd_same
    have atP : H1 P = some (.tbl (ps ++ #[rawInt pos.line, rawInt pos.col, .ref c'])) := by
      rw [← hH1, upd_ne ePc, upd_same]
    have ext : ExtN H H1 := by
      intro b o e n
      have h1 : b ≠ P := fun z => n ps (Option.some.inj (e.symm.trans (by rw [z]; exact hP)))
      rw [← hH1, upd_ne (ne_of_none e nC), upd_ne h1]
      exact e
    have nF : H1 h'.objs.size = none := J.hok.fresh (Nat.le_refl _)
    have nF0 : H h'.objs.size = none := I.hok.fresh (Nat.le_trans hge (Nat.le_of_lt hlt))
    have T1 : Tabs T H1 := by
      intro p hp
      by_cases hb : p.1 = P
      · have hl : (ps ++ #[rawInt pos.line, rawInt pos.col, Value.ref c']).toList = ps.toList ++ [rawInt pos.line, rawInt pos.col, Value.ref c'] := by simp
        rw [hu p hp hb, hb]
        refine ⟨_, atP, ?_, ?_⟩
        · rw [hl]
          exact PySem.TriplesOk_snoc _ _ _ _ ht
        · intro p' cv hcv
          rw [hl] at hcv
          rcases among_app _ ht hcv with z | z
          · obtain ⟨c0, e1, e2⟩ := ha p' cv z
            exact ⟨c0, e1, ext _ _ e2 codeO_ne⟩
          · exact ⟨c', z, atc⟩
      · obtain ⟨ps', a1, a2, a3⟩ := hT p hp
        have a1' : H1 p.1 = some (.tbl ps') := by
          rw [← hH1, upd_ne (ne_of_none a1 nC), upd_ne hb]
          exact a1
        refine ⟨ps', a1', a2, fun p' cv hcv => ?_⟩
        obtain ⟨c0, e1, e2⟩ := a3 p' cv hcv
        exact ⟨c0, e1, ext _ _ e2 codeO_ne⟩
    have keep : ∀ b o, H1 b = some o → (upd H1 h'.objs.size (LmO h'.objs.size (lamNF X params scope c') body)) b = some o := by
      intro b o e
      exact (upd_ne (ne_of_none e nF)).trans e
    refine h h'.objs.size c' _ _ (inv_lm (F := lamNF X params scope c') (eb := body) (tk := tk) J) (fun b o e n => keep _ _ (ext b o e n)) (T1.ext keep) (fun b ps' hb e => keep _ _ (by rw [← hH1, upd_ne (ne_of_none e nC), upd_ne hb]; exact e)) nF0 upd_same (keep _ _ atc)
end
def tLm2 (X : Cx) (T : List (Addr × Str)) (P : Addr) (params : Arguments) (body : Expr) (scope : Scope) : TE := fun _ H Q =>
  Tabs T H ∧ ∀ (f c' : Addr) (H1 : Hp), ExtN H H1 → Tabs T H1 → (∀ b ps, b ≠ P → H b = some (.tbl ps) → H1 b = some (.tbl ps)) → H f = none → H1 f = some (LmO f (lamNF X params scope c') body) →
    H1 c' = some (CodeO c' (X.env.qual ++ "<lambda>")) → Q (.ref f) H1
theorem pe_lm2 {X : Cx} {T : List (Addr × Str)} {c P : Addr} {params : Arguments} {body : Expr} {scope : Scope} {pos : Pos}
    (TB : TabB X.base X.mg c P) (hcode : X.env.code = .ref c) (hm : (P, X.env.qual ++ "<lambda>") ∈ T)
    (hu : ∀ p ∈ T, p.1 = P → p.2 = X.env.qual ++ "<lambda>") (hsc : LamS X.env.scope scope)
    (hdef : defaultsOf params X.env = ([], []) := by rfl) :
    PE X (.Lambda params body scope pos) (tLm2 X T P params body scope) := by
  refine ⟨fun pins s σ H Q I h => ?_⟩
  obtain ⟨hT, h⟩ := h
  refine lam_mk2 I TB hcode hm hu hT hdef (hsc.has I.ok) ?_
  intro f c' H1 s' I1 x t o n e1 e2
  exact ⟨.ref f, H1, I1, rfl, h f c' H1 x t o n e1 e2⟩
end Lx

/-! quiet code: values by raw rules, the heap only grown; for calls within a generator expression, within a sort's key -/
namespace Qz
open PySem PySem.Spec PyProof.Rows L2 LamX NdefX Lx
theorem kp_refl (s : Shared) : Keeps s s := ⟨s.heap, s.toks, rfl, fun _ _ e => e⟩
theorem kp_tok (s : Shared) (t : Nat) : Keeps s { s with toks := t } := ⟨s.heap, t, rfl, fun _ _ e => e⟩
theorem kp_trans {s s1 s2 : Shared} (a : Keeps s s1) (b : Keeps s1 s2) : Keeps s s2 := by
  obtain ⟨h1, t1, rfl, k1⟩ := a
  obtain ⟨h2, t2, rfl, k2⟩ := b
  exact ⟨h2, t2, rfl, fun b o e => k2 b o (k1 b o e)⟩
theorem kp_at {s s1 : Shared} (a : Keeps s s1) : ∀ b o, s.heap.get? b = some o → s1.heap.get? b = some o := by
  obtain ⟨h1, t1, rfl, k1⟩ := a
  exact k1
/-- the ground stands -/
def Bs (base : Heap) (s : Shared) : Prop := ∀ b o, base.get? b = some o → s.heap.get? b = some o
theorem Bs.kp {base : Heap} {s s1 : Shared} (h : Bs base s) (k : Keeps s s1) : Bs base s1 := fun b o e => kp_at k b o (h b o e)
section
variable (P : Program) (w : World)
def QV (A : Around) (env : Env) (e : Expr) (v : V) (s : Shared) : Prop :=
  ∀ (s1 : Shared) (E : Value → Shared → Prop), Keeps s s1 → wpAny (model P w) A (eval e env) (fun u s2 => RelV v u ∧ Keeps s1 s2) E s1
def QT (A : Around) (env : Env) (e : Expr) (b : Bool) (s : Shared) : Prop :=
  ∀ (s1 : Shared) (E : Value → Shared → Prop), Keeps s s1 → wpAny (model P w) A (isTrue e env (eval e env)) (fun c s2 => c = b ∧ Keeps s1 s2) E s1
def QA (A : Around) (env : Env) (es : List Expr) (vs : List V) (s : Shared) : Prop :=
  ∀ (pos : Pos) (s1 : Shared) (E : Value → Shared → Prop), Keeps s s1 → wpAny (model P w) A (spliced (backTo pos (starEach es env))) (fun us s2 => Vals vs us ∧ Keeps s1 s2) E s1
/-- a def's statements: they come to their end or tell v -/
def QSs (A : Around) (env : Env) (st : List Stmt) (v : V) (s : Shared) : Prop :=
  ∀ (s1 : Shared) (E : Value → Shared → Prop), Keeps s s1 →
    wpAny (model P w) A (execs st env) (fun f s2 => (∃ u, RelV v u ∧ (f = .ret u ∨ (f = .next ∧ u = .none))) ∧ Keeps s1 s2) E s1
/-- a def, quietly: of these arguments that value -/
def QFn (base : Heap) (k : Nat) (f : Addr) (vs : List V) (r : V) : Prop :=
  ∀ (A : Around) (s : Shared) (us : List Value) (E : Value → Shared → Prop), Room k A → Bs base s → Vals vs us →
    wpAny (model P w) A (call (.ref f) us) (fun u s' => RelV r u ∧ Keeps s s') E s
def CmpI (op : CmpOp) (g : Int → Int → Bool) : Prop :=
  ∀ (A : Around) (i j : Int) (t u : Tok) (s : Shared) (Q : Value → Shared → Prop) (E : Value → Shared → Prop), Q (.bool (g i j)) s →
    wpAny (model P w) A (compareOp op (.int i t) (.int j u)) Q E s
end
section
variable {P : Program} {w : World} {A : Around} {env : Env} {s : Shared} {e e' : Expr} {es : List Expr} {v v' : V} {vs : List V}
theorem cmp_le : CmpI P w .LtE fun i j => decide (i ≤ j) := fun _ _ _ _ _ _ _ _ q => le_int q
theorem cmp_lt : CmpI P w .Lt fun i j => decide (i < j) := fun _ _ _ _ _ _ _ _ q => lt_int q
theorem QV.kp {s1 : Shared} (h : QV P w A env e v s) (k : Keeps s s1) : QV P w A env e v s1 := fun s2 E k2 => h s2 E (kp_trans k k2)
theorem qv_int {i : Int} {j} {pos} : QV P w A env (.Constant (.int i) j pos) (.int i) s := fun s1 E k => wpAny_Constant_int ⟨⟨_, rfl⟩, kp_tok s1 _⟩
theorem qv_local {x : Str} {u : Value} {m : Str → Option Value} {pos : Pos} (hk : env.scope.kind = .function) (hl : env.kindOf x = some .local) (hn : s.heap.Ns env.locals m) (hm : m x = some u) (r : RelV v u)
    (hd : (x == ("__debug__" : Str)) = false := by decide) : QV P w A env (.Name x pos) v s := fun s1 E k =>
  wpAny_Name (wpAny_loadName_local hk hl (hn.keeps (kp_at k)) hm ⟨r, kp_refl _⟩) hd
theorem qv_free {x : Str} {u : Value} {c : Addr} {pos : Pos} (hk : env.scope.kind = .function) (hl : env.kindOf x = some .free) (hc : env.cells.lookup x = some c) (hv : s.heap.IsCell c (some u)) (r : RelV v u)
    (hd : (x == ("__debug__" : Str)) = false := by decide) (hcd : (x == ("__classdict__" : Str)) = false := by decide) : QV P w A env (.Name x pos) v s := fun s1 E k =>
  wpAny_Name (wpAny_loadName_free hk hl hc (by obtain ⟨o, ho, hd⟩ := hv; exact ⟨o, kp_at k _ _ ho, hd⟩) ⟨r, kp_refl _⟩ hcd) hd
theorem qv_glob {K : PySem.W.Frag} {mg : Str → Option Value} {base : Heap} {x : Str} {u : Value} {pos : Pos} (M : Mod K mg base) (hb : Bs base s) (hk : env.scope.kind = .function) (hl : env.kindOf x = some .globalImplicit) (hg : env.globals = mainGlobals)
    (hm : mg x = some u) (r : RelV v u) (hd : (x == ("__debug__" : Str)) = false := by decide) : QV P w A env (.Name x pos) v s := fun s1 E k =>
  Calls.Name_function_global hk hl (Calls.loadGlobal_global (by rw [hg]; exact M.glob.keeps (hb.kp k)) hm ⟨r, kp_refl _⟩) hd
theorem qa_nil : QA P w A env [] [] s := fun _ s1 E k => Calls.spliced_nil ⟨.nil, kp_refl _⟩
theorem qa_cons (h : QV P w A env e v s) (hr : QA P w A env es vs s) (hs : starEach (e :: es) env = (false, eval e env) :: starEach es env := by rfl) : QA P w A env (e :: es) (v :: vs) s := by
  intro pos s1 E k
  rw [hs]
  show wpAny _ _ (spliced ((false, eval e env) :: backTo pos (starEach es env))) _ _ s1
  refine Calls.spliced_cons (wpAny_mono (h s1 E k) (fun u s2 q => ?_) fun _ _ z => z)
  exact wpAny_mono (hr pos s2 E (kp_trans k q.2)) (fun us s3 q3 => ⟨.cons q.1 q3.1, kp_trans q.2 q3.2⟩) fun _ _ z => z
theorem qv_sub {i j : Int} {pos : Pos} (h : QV P w A env e (.int i) s) (h' : QV P w A env e' (.int j) s) : QV P w A env (.BinOp e .Sub e' pos) (.int (i - j)) s := by
  intro s1 E k
  refine wpAny_BinOp (wpAny_mono (h s1 E k) (fun u s2 q => ?_) fun _ _ z => z)
  refine wpAny_mono (h' s2 E (kp_trans k q.2)) (fun u' s3 q3 => ?_) fun _ _ z => z
  obtain ⟨⟨t, rfl⟩, k2⟩ := q
  obtain ⟨⟨t', rfl⟩, k3⟩ := q3
  exact sub_int ⟨⟨_, rfl⟩, kp_trans k2 (kp_trans k3 (kp_tok _ _))⟩
theorem qv_mod {i j : Int} {pos : Pos} (hj : 0 < j) (h : QV P w A env e (.int i) s) (h' : QV P w A env e' (.int j) s) : QV P w A env (.BinOp e .Mod e' pos) (.int (i % j)) s := by
  intro s1 E k
  refine wpAny_BinOp (wpAny_mono (h s1 E k) (fun u s2 q => ?_) fun _ _ z => z)
  refine wpAny_mono (h' s2 E (kp_trans k q.2)) (fun u' s3 q3 => ?_) fun _ _ z => z
  obtain ⟨⟨t, rfl⟩, k2⟩ := q
  obtain ⟨⟨t', rfl⟩, k3⟩ := q3
  exact mod_int' (by omega) (by rw [Int.fmod_eq_emod_of_nonneg i (by omega)]; exact ⟨⟨_, rfl⟩, kp_trans k2 (kp_trans k3 (kp_tok _ _))⟩)
theorem qv_cmp {op : CmpOp} {g : Int → Int → Bool} {i j : Int} {pos : Pos} (c : CmpI P w op g) (h : QV P w A env e (.int i) s) (h' : QV P w A env e' (.int j) s) (hm : behindInMarks op e' = false := by with_unfolding_all rfl) :
    QV P w A env (.Compare e [op] [e'] pos) (.bl (g i j)) s := by
  intro s1 E k
  refine wpAny_Compare1 (wpAny_mono (h s1 E k) (fun u s2 q => ?_) fun _ _ z => z) hm
  refine wpAny_mono (h' s2 E (kp_trans k q.2)) (fun u' s3 q3 => ?_) fun _ _ z => z
  obtain ⟨⟨t, rfl⟩, k2⟩ := q
  obtain ⟨⟨t', rfl⟩, k3⟩ := q3
  exact c _ _ _ _ _ _ _ _ ⟨rfl, kp_trans k2 k3⟩
theorem qv_chain {op op' : CmpOp} {g g' : Int → Int → Bool} {i j l : Int} {a b c : Expr} {pos : Pos} (c1 : CmpI P w op g) (c2 : CmpI P w op' g') (ha : QV P w A env a (.int i) s) (hb : QV P w A env b (.int j) s) (hc : QV P w A env c (.int l) s)
    (ht : g i j = true) {d : Bool} (hd : g' j l = d) (hm : lastMarks [op, op'] [b, c] = false := by with_unfolding_all rfl) : QV P w A env (.Compare a [op, op'] [b, c] pos) (.bl d) s := by
  subst hd
  intro s1 E k
  refine Compare_chain (wpAny_mono (ha s1 E k) (fun u s2 q => chain_link (wpAny_mono (hb s2 E (kp_trans k q.2)) (fun u' s3 q3 => ?_) fun _ _ z => z)) fun _ _ z => z) hm
  obtain ⟨⟨t, rfl⟩, k2⟩ := q
  obtain ⟨⟨t', rfl⟩, k3⟩ := q3
  refine c1 _ _ _ _ _ _ _ _ ?_
  rw [ht]
  refine wpAny_truthy_bool (ite_tt (chain_last (wpAny_mono (hc s3 E (kp_trans k (kp_trans k2 k3))) (fun u'' s4 q4 => ?_) fun _ _ z => z)))
  obtain ⟨⟨t'', rfl⟩, k4⟩ := q4
  exact c2 _ _ _ _ _ _ _ _ ⟨rfl, kp_trans k2 (kp_trans k3 k4)⟩
theorem qt_val {b : Bool} (h : QV P w A env e (.bl b) s) (he : ∀ whole, isTrue e env whole = (do let v ← whole; standAt e.pos; holding [v] (truthy v)) := by intro _; rfl) : QT P w A env e b s := by
  intro s1 E k
  refine isTrue_plain (wpAny_mono (h s1 E k) (fun u s2 q => ?_) fun _ _ z => z) (he _)
  obtain ⟨rfl, k2⟩ := q
  exact wpAny_truthy_bool ⟨rfl, k2⟩
theorem qt_not {b : Bool} {pos : Pos} (h : QT P w A env e b s) : QT P w A env (.UnaryOp .Not e pos) (!b) s := by
  intro s1 E k
  exact isTrue_not (wpAny_mono (h s1 E k) (fun c s2 q => ⟨by rw [q.1], q.2⟩) fun _ _ z => z)
theorem qt_chain {op op' : CmpOp} {g g' : Int → Int → Bool} {i j l : Int} {a b c : Expr} {pos : Pos} (c1 : CmpI P w op g) (c2 : CmpI P w op' g') (ha : QV P w A env a (.int i) s) (hb : QV P w A env b (.int j) s) (hc : QV P w A env c (.int l) s)
    (ht : g i j = true) {d : Bool} (hd : g' j l = d) (hm : lastMarks [op, op'] [b, c] = false := by with_unfolding_all rfl) : QT P w A env (.Compare a [op, op'] [b, c] pos) d s := by
  subst hd
  intro s1 E k
  refine isTrue_chain (wpAny_mono (ha s1 E k) (fun u s2 q => test_link (wpAny_mono (hb s2 E (kp_trans k q.2)) (fun u' s3 q3 => ?_) fun _ _ z => z)) fun _ _ z => z) hm
  obtain ⟨⟨t, rfl⟩, k2⟩ := q
  obtain ⟨⟨t', rfl⟩, k3⟩ := q3
  refine c1 _ _ _ _ _ _ _ _ ?_
  rw [ht]
  refine wpAny_truthy_bool (ite_tt (test_last (wpAny_mono (hc s3 E (kp_trans k (kp_trans k2 k3))) (fun u'' s4 q4 => ?_) fun _ _ z => z)))
  obtain ⟨⟨t'', rfl⟩, k4⟩ := q4
  exact c2 _ _ _ _ _ _ _ _ (wpAny_truthy_bool ⟨rfl, kp_trans k2 (kp_trans k3 k4)⟩)
theorem qv_call {K : PySem.W.Frag} {mg : Str → Option Value} {base : Heap} {k : Nat} {f : Addr} {x : Str} {r : V} {p pos : Pos} (F : QFn P w base k f vs r) (M : Mod K mg base) (hb : Bs base s) (hr : Room k A)
    (hk : env.scope.kind = .function) (hl : env.kindOf x = some .globalImplicit) (hg : env.globals = mainGlobals) (hm : mg x = some (.ref f)) (kp : PySem.W.keepIn K (.ref f) = true) (ha : QA P w A env (e :: es) vs s)
    (hd : (x == ("__debug__" : Str)) = false := by decide) (he : starEach (e :: es) env = (false, eval e env) :: starEach es env := by rfl) (hpl : (backTo pos (starEach es env)).any (·.1) = false := by rfl) :
    QV P w A env (.Call (.Name x p) (e :: es) [] pos) r s := by
  intro s1 E k1
  refine wpAny_Call_Name_kw (Calls.Name_function_global hk hl (Calls.loadGlobal_global (by rw [hg]; exact M.glob.keeps (hb.kp k1)) hm ?_) hd)
  refine PySem.W.callWith_K (h₀ := base) M.kin kp (wpAny_mono (ha pos s1 E k1) (fun us s2 q => ⟨M.kin.keeps (hb.kp (kp_trans k1 q.2)), ?_⟩) fun _ _ z => z) he hpl
  exact wpAny_mono (F A s2 us E hr (hb.kp (kp_trans k1 q.2)) q.1) (fun u s3 q3 => ⟨q3.1, kp_trans q.2 q3.2⟩) fun _ _ z => z
/-! ### statements -/
theorem qs_ret {pos : Pos} {st : List Stmt} (h : QV P w A env e v s) : QSs P w A env (.Return (some e) pos :: st) v s := by
  intro s1 E k
  exact wpAny_execs_cons (wpAny_Return_some (wpAny_mono (h s1 E k) (fun u s2 q => ⟨⟨u, q.1, .inl rfl⟩, q.2⟩) fun _ _ z => z))
theorem qs_expr {pos : Pos} {st : List Stmt} (h : QV P w A env e v' s) (hr : QSs P w A env st v s) (hi : interactive env = false) (hs : swapsWith e none pos.line env = pure false := by rfl) : QSs P w A env (.Expr e pos :: st) v s := by
  intro s1 E k
  refine wpAny_execs_cons (wpAny_Expr_any (wpAny_mono (h s1 E k) (fun u s2 q => ?_) fun _ _ z => z) hi hs)
  exact wpAny_mono (hr s2 E (kp_trans k q.2)) (fun f s3 q3 => ⟨q3.1, kp_trans q.2 q3.2⟩) fun _ _ z => z
theorem qs_if0 {pos : Pos} {a st : List Stmt} {c : Expr} (h : QT P w A env c false s) (hr : QSs P w A env st v s) : QSs P w A env (.If c a [] pos :: st) v s := by
  intro s1 E k
  refine wpAny_execs_cons (wpAny_If (wpAny_mono (h s1 E k) (fun b s2 q => ?_) fun _ _ z => z))
  obtain ⟨rfl, k2⟩ := q
  refine ite_ff (wpAny_execs_nil ?_)
  exact wpAny_mono (hr s2 E (kp_trans k k2)) (fun f s3 q3 => ⟨q3.1, kp_trans k2 q3.2⟩) fun _ _ z => z
theorem qs_nil : QSs P w A env [] .non s := fun s1 E k => wpAny_execs_nil ⟨⟨.none, rfl, .inr ⟨rfl, rfl⟩⟩, kp_refl _⟩
/-- a def whose body is quiet: parameters are its own, none is captured -/
theorem qfn_of {K : PySem.W.Frag} {mg : Str → Option Value} {base : Heap} {x qual : Str} {st : Stmt} {f : Addr} {fd : FuncData} {N ps : List Str} {k : Nat} {r : V} (F : Fun K x qual st f fd) (S : FnScope N ps (defScope st)) (b : Binds K fd ps []) (M : Mod K mg base)
    (hl : vs.length = ps.length) (hloc : ∀ y ∈ ps, (defScope st).names.lookup y = some .local)
    (hbody : ∀ (cdv : Value) (A : Around) (s : Shared) (L : Addr), Room k (A.deeper (envOfC qual (defScope st) L f cdv)) → Bs base s →
      (∀ (i : Nat) (y : Str) (v : V) (p : Pos), ps[i]? = some y → vs[i]? = some v → (y == ("__debug__" : Str)) = false → QV P w (A.deeper (envOfC qual (defScope st) L f cdv)) (envOfC qual (defScope st) L f cdv) (.Name y p) v s) →
      QSs P w (A.deeper (envOfC qual (defScope st) L f cdv)) (envOfC qual (defScope st) L f cdv) (defBody st) r s) :
    QFn P w base (k + 1) f vs r := by
  intro A s us E hr hb rv
  obtain ⟨oc, od, kV, doc, pm, an, cdv, ct, osl, rfl, lk, hcd⟩ := F.ex
  have KX : K.In s.heap := M.kin.keeps hb
  have lim : s.heap.NoLimit := M.nolimit.keeps hb
  have hul : us.length = ps.length := by rw [← rv.length]; exact hl
  have bb := b s us KX (by rw [List.append_nil]; exact hul)
  rw [List.append_nil] at bb
  have ndP : ps.Nodup := by rw [← S.pre]; exact S.nd.sublist (List.take_sublist _ _)
  refine wpAny_call (codeAny_call_function hr.depth (KX _ _ lk) rfl S.co S.gen rfl (PySem.W.codeRec_of KX hcd) (bb _ _ _ _ ?_))
  refine wpAny_newFunctionEnv_cells S.kind (fun y hy => .inl (hloc y.1 (List.of_mem_zip hy).1)) fun env he s1 x => ?_
  subst he
  refine ⟨lim.keeps x.toInCall.keep, codeAny_func ?_⟩
  have kps : Keeps s s1 := by
    obtain ⟨h1, tk, e, hk⟩ := x.done
    exact ⟨h1, tk, e, hk⟩
  refine wpAny_mono (hbody cdv A s1 s.heap.objs.size (hr.deeper _) (hb.kp kps) (fun i y v p h1 h2 hd => ?_) s1 _ (kp_refl _)) (fun fl s' q => ?_) fun _ _ z => z
  · obtain ⟨u, hu, ru⟩ := rv.get h2
    have hk := hloc y (List.mem_of_getElem? h1)
    exact qv_local S.kind hk x.toInCall.ns (bindL_get ndP h1 hu hk) ru hd
  · obtain ⟨⟨u, ru, hf⟩, k2⟩ := q
    rcases hf with rfl | ⟨rfl, rfl⟩
    · exact ⟨ru, kp_trans kps k2⟩
    · exact ⟨ru, kp_trans kps k2⟩
end
end Qz

/-! all(test of x for x in a list of ints), the test may call quiet defs and read the def's names -/
namespace Qz
open PySem PySem.Spec PyProof.Rows L2 LamX NdefX Lx
/-- the generator expression's own scope: its name x, «.0», names that the def holds in cells -/
structure GenC (env : Env) (scope : Scope) (x : Str) : Prop where
  kind : scope.kind = .function
  co : scope.isCoroutine = false
  cell : ∀ y ∈ scope.names, y.2 ≠ .cell
  dot : scope.names.lookup (".0" : Str) = some NameKind.local
  loc : scope.names.lookup x = some .local
  free : ∀ y ∈ scope.names, y.2 = .free → env.scope.names.lookup y.1 = some .cell
/-- the test at n tells r -/
def EltQ (X : Cx) (scope : Scope) (x : Str) (elt : Expr) (σ : L2.St) (n : Int) (r : Bool) : Prop :=
  Mod X.K X.mg X.base → ∀ (A' : Around) (cenv : Env) (s₂ : Shared), A'.handled = none → A'.depth ≤ X.A.depth + 1 → A'.units ≤ X.A.units + 8 → cenv.scope = scope → cenv.globals = mainGlobals → Bs X.base s₂ →
    (∀ p, QV X.prog X.w A' cenv (.Name x p) (.int n) s₂) →
    (∀ (i : Nat) (y : Str) (v : V) (p : Pos), X.N[i]? = some y → σ[i]? = some (some v) → scope.names.lookup y = some .free → (y == ("__debug__" : Str)) = false → (y == ("__classdict__" : Str)) = false → QV X.prog X.w A' cenv (.Name y p) v s₂) →
    QV X.prog X.w A' cenv elt (.bl r) s₂
def trI (qb : Int → Bool) (ns : List Int) (j : Nat) : Bool := match ns[j]? with
  | some b => qb b
  | none => true
/-- a captured name within the generator's frame -/
theorem clo_at {X : Cx} {scope : Scope} {y : Str} {c : Addr} (hy : scope.names.lookup y = some .free) (hc : X.env.cells.lookup y = some c) : (cloFrom X.env.cells scope.names []).lookup y = some c := by
  obtain ⟨c', h'⟩ := mem_lookup (cloFrom_has (cells := X.env.cells) (acc := []) (PySem.mem_of_lookup hy))
  rcases cloFrom_mem (PySem.mem_of_lookup h') with hm | ⟨h1, h2⟩
  · cases hm
  · have e2 : c' = c := by
      rw [h2, hc] <;> rfl
    rw [← e2]
    exact h'
section
variable {X : Cx}
/-- all(elt for x in te); behind it the def's table may have grown -/
def tAllL (X : Cx) (P : Addr) (scope : Scope) (x : Str) (elt : Expr) (te : TE) : TE := fun σ H Q => te σ H fun v H1 => ∃ (a : Addr) (ns : List Int) (qb : Int → Bool), v = .ref a ∧ SqL X.K H1 a (ns.map V.int) ∧ GxR.TabG H1 P ∧
  (∀ n ∈ ns, EltQ X scope x elt σ n (qb n)) ∧ ∀ H2, GxR.Tabbed P H1 H2 → Q (.bl (ns.all qb)) H2
theorem pe_allL {c P : Addr} {elt iter : Expr} {x : Str} {px p pos gpos : Pos} {scope : Scope} {te : TE} {k : Nat}
    (hr : Room k X.A) (hGl : Gl X "all") (mv : X.mg "all" = none) (TB : GxR.TabB X.base X.mg c P) (hCd : X.env.code = .ref c) (S : GenC X.env scope x) (hi : PE X iter te)
    (hFold : ∀ v, genFold iter X.env v = pure v)
    (hEach : starEach [.GeneratorExp elt [⟨.Name x px, iter, [], 0⟩] scope gpos] X.env = (false, eval (.GeneratorExp elt [⟨.Name x px, iter, [], 0⟩] scope gpos) X.env) :: starEach [] X.env := by rfl) (hBoot : bootBuiltins "all" = some (.builtin "all") := by rfl) (hxd : (x == ("__debug__" : Str)) = false := by decide) :
    PE X (.Call (.Name "all" p) [.GeneratorExp elt [⟨.Name x px, iter, [], 0⟩] scope gpos] [] pos) (tAllL X P scope x elt te) := by
  refine ⟨fun pn s σ H Q I h => ?_⟩
  refine wpAny_Call_Name_kw (ld_blt I hGl mv hBoot ?_ (by decide) (by decide))
  refine PyProof.Rows.callWith_builtin1 ?_ hEach (by rfl)
  rw [hEach]
  show wpAny _ _ (spliced ((false, eval (.GeneratorExp elt [⟨.Name x px, iter, [], 0⟩] scope gpos) X.env) :: backTo pos (starEach [] X.env))) _ _ s
  have hfree : ∀ y ∈ scope.names, y.2 = .free → ∃ c, X.env.cells.lookup y.1 = some c := fun y hy e => I.ok.has _ (.inl (S.free y hy e))
  refine Calls.spliced_cons (wpAny_GeneratorExp_walksQD hr.hd S.co (closure_ok hfree) S.cell S.dot S.loc S.kind (by have := hr.dp; omega) ?_ hFold)
  refine thn (hi.run pn s σ H _ I h) fun x0 t1 ⟨v, J1, Iv, rr, wq⟩ => ?_
  obtain ⟨li, ns, qb, rfl, eLi, ⟨tb, hTb, hTr⟩, hel, hQ⟩ := wq
  obtain rfl : x0 = Value.ref li := rr
  obtain ⟨xs, rxs, eL, eZ⟩ := Iv.list eLi
  have isL := eL.isList
  have lenE : xs.length = ns.length := by rw [← rxs.length, List.length_map]
  have atI : ∀ (i : Nat) (v : Value), xs.toArray[i]? = some v → ∃ (n : Int) (u : Tok), ns[i]? = some n ∧ v = .int n u := fun i v hv => by
    have hv3 : xs[i]? = some v := by simpa using hv
    have hi3 : i < xs.length := (List.getElem?_eq_some_iff.mp hv3).1
    have hn : ns[i]? = some (ns[i]'(by omega)) := List.getElem?_eq_getElem _
    have hb3 : (ns.map V.int)[i]? = some (V.int (ns[i]'(by omega))) := by rw [List.getElem?_map, hn] <;> rfl
    obtain ⟨u, hu, ru⟩ := rxs.get hb3
    rw [hv3] at hu
    cases hu
    obtain ⟨t, e⟩ := ru
    exact ⟨_, t, hn, e⟩
  refine wpAny_pyIter_list isL ?_
  generalize eo : ({ cls := .type "list_iterator", data := .fields #[.ref li, .int 0 0] } : Obj) = oi
  have isIt : (t1.heap.push oi).IsListIter t1.heap.objs.size li 0 := by
    subst eo
    exact ⟨_, Heap.get?_push_size _ rfl, rfl, rfl⟩
  have ltL : li < t1.heap.objs.size := by
    obtain ⟨_, e, _⟩ := _root_.id isL
    exact Heap.lt_size e
  have atP : t1.heap.get? P = some { cls := .none, data := .fields tb } := Iv.hok P _ hTb
  have ltP : P < t1.heap.objs.size := Heap.lt_size atP
  have atP2 : (t1.heap.push oi).get? P = some { cls := .none, data := .fields tb } := Heap.get?_push_of_some _ atP
  have cdH : PySem.W.CodeHd (t1.heap.push oi) c P := TB.code.keeps fun b u e => Heap.get?_push_of_some _ (Iv.bk b u e)
  have noL : (t1.heap.push oi).NoLimit := Iv.nolimit.push oi
  -- what stands in the frame that asks, for the frame that walks
  have nmS : ∀ (i : Nat) (y : Str) (v : V), X.N[i]? = some y → σ[i]? = some (some v) → scope.names.lookup y = some .free → ∃ (c : Addr) (u : Value), RelV v u ∧ (cloFrom X.env.cells scope.names []).lookup y = some c ∧ t1.heap.IsCell c (some u) := fun i y v h1 h2 g3 => by
    have hk := S.free _ (PySem.mem_of_lookup g3) rfl
    obtain ⟨m, _, eL⟩ := Iv.loc
    obtain ⟨u, ru, q⟩ := eL i y v h1 h2 (.inr (.inl hk))
    rcases q with ⟨k', _⟩ | ⟨_, c, hc, hcell⟩
    · have k' : X.env.scope.names.lookup y = some .local := k'
      rw [show X.env.scope.names.lookup y = some .cell from hk] at k'
      cases k'
    · exact ⟨c, u, ru, clo_at g3 hc, hcell⟩
  have rest : ∀ (cv0 : Value) (g3 : Heap) (tk3 : Nat) (ps' : Array Value), Heap.ExtBut P (t1.heap.push oi) g3 → (t1.heap.push oi).objs.size ≤ g3.objs.size → g3.get? P = some { cls := .none, data := .fields ps' } → (∃ more, ps' = tb ++ more) → TriplesOk ps'.toList →
      wpAny (model X.prog X.w) X.A (builtinsFor X.env.globals X.env.builtins) (fun bj t₄ =>
        ∃ Ja fq wq2 m₀ Pg Su₀ py Fy, Value.ref t1.heap.objs.size = .ref Ja ∧ (∀ A' : Around, A'.handled = none → Walks X.prog X.w A' Ja fq wq2 m₀ Pg Su₀) ∧ Su₀ 0 t₄.heap ∧ (∀ b ∈ fq, b < t₄.heap.objs.size) ∧ t₄.heap.NoLimit ∧ cStatics ∉ wq2 ∧
          (∀ gr : Heap, (∀ b oi, t₄.heap.get? b = some oi → gr.get? b = some oi) →
            QuietGenD X.prog X.w (genEnv scope (cloFrom X.env.cells scope.names []) t₄.heap.objs.size cv0 bj X.env) x [] elt (List.range t₄.heap.objs.size) wq2 Pg py Fy gr (X.A.depth + 1) (X.A.units + 8)) ∧
          (∀ a g₅ tk3 gv, gv.bare = true → t₄.heap.objs.size < a → g₅.objs.size = a + 1 → (∀ b oi, t₄.heap.get? b = some oi → g₅.get? b = some oi) →
            WalksS X.prog X.w X.A.in4 a (a :: t₄.heap.objs.size :: List.range t₄.heap.objs.size) (t₄.heap.objs.size :: wq2) (GenOnlyQ t₄.gens.size) (passing py m₀ 0).length
              (fun j y => ∃ i, (passing py m₀ 0)[j]? = some i ∧ Fy i y) (GenAt X.prog X.w X.A.in4 a t₄.gens.size t₄.heap.objs.size (List.range t₄.heap.objs.size) wq2 py m₀ Fy) →
            GenAt X.prog X.w X.A.in4 a t₄.gens.size t₄.heap.objs.size (List.range t₄.heap.objs.size) wq2 py m₀ Fy 0 { t₄ with gens := t₄.gens.push gv, toks := tk3, heap := g₅ } →
            wpAny (model X.prog X.w) X.A (spliced (backTo pos (starEach [] X.env))) (fun vs s₂ => wpAny (model X.prog X.w) X.A (call (.builtin "all") (.ref a :: vs)) (EP X pn σ Q) X.xe s₂) X.xe { t₄ with gens := t₄.gens.push gv, toks := tk3, heap := g₅ })) X.xe { t1 with heap := g3, toks := tk3 } := by
    intro cv0 g3 tk3 ps' ext szE atP3 mor tr3
    obtain ⟨bm, ob, e1, e2, e3, e4, e5, e6, e7, e8⟩ := TB.bm
    have sNeP : cStatics ≠ P := fun e => by
      obtain ⟨_, nsE, _⟩ := Iv.nolimit
      obtain ⟨o', ent, ep2, eo, dE, _⟩ := nsE
      rw [e, atP] at eo
      cases eo
      cases dE
    have sLt : cStatics < t1.heap.objs.size := let ⟨_, nsE, _⟩ := Iv.nolimit; nsE.lt
    have szP : (t1.heap.push oi).objs.size = t1.heap.objs.size + 1 := Heap.size_push ..
    have kp3 : ∀ b u, b ≠ P → t1.heap.get? b = some u → g3.get? b = some u := fun b u hBoot e => ext b u hBoot (Heap.get?_push_of_some _ e)
    refine wpAny_builtinsFor (m := X.mg) (by rw [Iv.ok.glob]; exact ((Iv.mod.glob.keeps Iv.bk).push oi).extBut ext TB.gP) e1 e2 (kp3 _ _ e4 (Iv.bk _ _ e5)) e6 e7 e8 ?_
    have lNeP : li ≠ P := fun z => by
      obtain ⟨_, e, hc1, _, hd1⟩ := _root_.id isL
      rw [z, atP] at e
      cases e
      cases hd1
    have isL3 : g3.IsList li xs.toArray := by
      obtain ⟨ob, e, r⟩ := _root_.id isL
      exact ⟨ob, kp3 _ _ lNeP e, r⟩
    have isIt3 : g3.IsListIter t1.heap.objs.size li 0 := isIt.at fun u e => ext _ u (Nat.ne_of_gt ltP) e
    refine ⟨t1.heap.objs.size, [t1.heap.objs.size, li], [t1.heap.objs.size], xs.toArray.size, (fun i v => xs.toArray[i]? = some v), (fun i h => h.IsListIter t1.heap.objs.size li i ∧ h.IsList li xs.toArray), (fun _ => true),
      (fun i y => ∃ n, ns[i]? = some n ∧ y = .bool (qb n)), rfl, (fun A' hA => Walks.list hA _ _ (Nat.ne_of_lt ltL) _), ⟨isIt3, isL3⟩, ?_, noL.extBut ext sNeP, ?_, ?_, ?_⟩
    · intro b hBoot
      rcases List.mem_cons.mp hBoot with z | z
      · rw [z]
        show t1.heap.objs.size < g3.objs.size
        omega
      · rcases List.mem_cons.mp z with z | z
        · rw [z]
          have le9 : t1.heap.objs.size ≤ g3.objs.size := by omega
          exact Nat.lt_of_lt_of_le ltL le9
        · cases z
    · intro z
      rcases List.mem_cons.mp z with z | z
      · exact Nat.ne_of_lt sLt z
      · cases z
    · intro gr egr
      -- what stood stands while the generator runs
      have stands : ∀ {s₂ : Shared}, (∀ b ∈ List.range g3.objs.size, b ∉ [t1.heap.objs.size] → ∀ oi, gr.get? b = some oi → s₂.heap.get? b = some oi) → ∀ b u, b ≠ P → t1.heap.get? b = some u → s₂.heap.get? b = some u := fun hk b u hBoot e => by
        have hlt : b < t1.heap.objs.size := Heap.lt_size e
        have e3 := kp3 b u hBoot e
        refine hk b (List.mem_range.mpr (Heap.lt_size e3)) (fun z => ?_) u (egr b u e3)
        rcases List.mem_cons.mp z with z | z
        · rw [z] at hlt
          exact Nat.lt_irrefl _ hlt
        · cases z
      refine ⟨fun A' E' i v s₂ m₂ hA hD hU hPv hn mv hk => ?_, fun A' E' i v s₂ m₂ hA hD hU hPv hp hn mv hk => ?_⟩
      · simp only [List.forIn_nil]
        exact wpAny_pure ⟨rfl, kp_refl _⟩
      · obtain ⟨n, u, hnn, rfl⟩ := atI i v hPv
        have hb3 : Bs X.base s₂ := fun b oi e => stands hk b oi (fun z => by rw [z] at e; have := (Iv.bs _ _ e).2; rw [hTb] at this; cases this) (Iv.bk b oi e)
        refine wpAny_mono (hel n (List.mem_of_getElem? hnn) Iv.ok.mod A' (genEnv scope (cloFrom X.env.cells scope.names []) g3.objs.size cv0 builtinsNs X.env) s₂ hA hD hU rfl Iv.ok.glob hb3 (fun p => ?_) (fun i y v p h1 h2 g3 dE hcd => ?_) s₂ E' (kp_refl _)) (fun y s3 r => ?_) fun _ _ e => e
        · exact qv_local S.kind S.loc hn mv ⟨u, rfl⟩ hxd
        · obtain ⟨c2, u2, ru, hc, o2, ho2, hd2⟩ := nmS i y v h1 h2 g3
          exact qv_free S.kind g3 hc ⟨o2, stands hk c2 o2 (fun z => by rw [z, atP] at ho2; cases ho2; cases hd2) ho2, hd2⟩ ru dE hcd
        · obtain ⟨e, kp⟩ := r
          exact ⟨⟨n, hnn, e⟩, kp⟩
    · intro g g5 tk6 gv gvB ltA sz5 kp5 Wk gAt
      simp only [GxR.passing_true, List.length_range] at Wk
      have n5 : xs.toArray.size = ns.length := by rw [List.size_toArray, lenE]
      rw [n5] at Wk gAt
      refine Calls.spliced_nil ?_
      refine call_all_walkS (Wk.in4_1.self 0 _ _ _ gAt ⟨g, _, _, _, _, _, _, trI qb ns, rfl, Wk.in4_1, gAt, ?_, fun s' mv => ?_⟩)
      · intro j y sj Qj Ej hy hQj
        obtain ⟨i, hij, n, hnn, rfl⟩ := hy
        obtain ⟨jlt, je⟩ := List.getElem?_eq_some_iff.mp hij
        rw [List.getElem_range] at je
        subst je
        have hQ2 : Qj (trI qb ns j) sj := hQj
        unfold trI at hQ2
        rw [hnn] at hQ2
        exact wpAny_truthy_bool hQ2
      · obtain ⟨more, em⟩ := mor
        have nW : ∀ b u, t1.heap.get? b = some u → b ∉ g3.objs.size :: [t1.heap.objs.size] := fun b u e hBoot => by
          have eL := Heap.lt_size e
          rcases List.mem_cons.mp hBoot with z | z
          · rw [z] at eL
            have sz9 : (g3.objs.size : Nat) < t1.heap.objs.size := eL
            omega
          · rcases List.mem_cons.mp z with z | z
            · rw [z] at eL
              exact Nat.lt_irrefl _ eL
            · cases z
        have Jv := GxR.inv_tab (more := more) (h' := s'.heap) (g' := s'.gens) (d' := s'.drawn) (t' := s'.toks) Iv hTb (fun b u hBoot e => mv.heap b u (nW b u e) (kp5 b u (kp3 b u hBoot e)))
          (by rw [← em]; exact mv.heap P _ (nW P _ atP) (kp5 P _ atP3)) (AllBare.movedS (Iv.bare.push gvB) mv)
        rw [GxR.sh_eta t1 s' mv.os] at Jv
        refine ⟨.bl _, upd J1 P (.tbl (tb ++ more)), Jv, rfl, ?_⟩
        have ea : (List.range ns.length).all (trI qb ns) = ns.all qb := by
          refine Eq.trans (congrArg (List.all _) (funext fun j => ?_)) (all_rangeD ns qb)
          unfold trI
          cases ns[j]? <;> rfl
        rw [ea]
        exact hQ _ ⟨⟨tb ++ more, upd_same, by rw [← em]; exact tr3⟩, fun b hBoot => upd_ne hBoot⟩
  refine ⟨noL, ?_⟩
  cases cA : codeAmong gpos tb.toList with
  | none =>
    refine wpAny_genexprCodeX hCd (cdH.code atP2 hTr) (cdH.tab atP2) cA fun c' h' tk3 ext hge hlt hco' _ htab' _ => ?_
    obtain ⟨o1, vs, f1, tf, fl, tg, inF, tx, tt, op, _, _, _, _, _, _, _, _, _, htr, _⟩ := hco'
    exact rest _ h' tk3 _ ext (Nat.le_trans hge (Nat.le_of_lt hlt)) htab'.2 ⟨_, rfl⟩ htr
  | some cv =>
    refine wpAny_genexprCode_hit hCd (cdH.code atP2 hTr) cA ?_
    exact rest cv (t1.heap.push oi) t1.toks tb (Heap.ExtBut.refl _ _) (Nat.le_refl _) atP2 ⟨#[], by simp⟩ hTr
end
end Qz

/-! set(xs) of a list of ints -/
namespace Qz
open PySem PySem.Spec PyProof.Rows L2 LamX NdefX Lx
/-- an empty set's object -/
abbrev setNil (w : World) : Obj := { cls := .type "set", dict := none, data := .set #[] 0 (.fresh 0 0 (!w.params.followText "set-order")) }
section
variable {P : Program} {w : World} {A : Around} {E : Value → Shared → Prop} {s : Shared}
/-- filled from a list of ints that stood before -/
theorem set_fill {h0 : Heap} {l : Addr} {items : Array Value} {ns : List Int} {R : Result → Shared → Prop} (hh : A.handled = none) (hl : h0.IsList l items) (hi : IntsAre items.toList ns) (hb : ns.length + 1 < scanBound)
    (e : s.heap = h0.push (setNil w))
    (h : ∀ (h' : Heap) (tk c : Nat), SetR w h' h0.objs.size (fun j => decide (j ∈ ns)) c → c ≤ ns.length → (∀ b o, h0.get? b = some o → h'.get? b = some o) → R (.ok (.ret .none)) { s with heap := h', toks := tk }) :
    codeAny (model P w) A (.builtin "set.update.loop" ⟨[.ref h0.objs.size, .ref (h0.objs.size + 1)], []⟩) R { s with heap := s.heap.push { cls := .type "list_iterator", data := .fields #[.ref l, .int 0 0] } } := by
  have hlt : l < h0.objs.size := by
    obtain ⟨o, e, _⟩ := _root_.id hl
    exact Heap.lt_size e
  have sz : (h0.push (setNil w)).objs.size = h0.objs.size + 1 := Heap.size_push ..
  have old : ∀ b o, h0.get? b = some o → ((h0.push (setNil w)).push { cls := .type "list_iterator", data := .fields #[.ref l, .int 0 0] }).get? b = some o := fun b o q => Heap.get?_push_of_some _ (Heap.get?_push_of_some _ q)
  have hn : items.size = ns.length := by
    have q := IntsAre.length hi
    rw [Array.length_toList] at q
    exact q
  rw [e]
  have neI : l ≠ h0.objs.size + 1 := Nat.ne_of_lt (Nat.lt_succ_of_lt hlt)
  have nf : h0.objs.size ∉ [h0.objs.size + 1, l] := by
    simp only [List.mem_cons, List.not_mem_nil, or_false, not_or]
    exact ⟨Nat.ne_of_lt (Nat.lt_succ_self _), Nat.ne_of_gt hlt⟩
  have hit : ((h0.push (setNil w)).push { cls := .type "list_iterator", data := .fields #[.ref l, .int 0 0] }).IsListIter (h0.objs.size + 1) l 0 := by
    rw [← sz]
    exact ⟨_, Heap.get?_push_size _ rfl, rfl, rfl⟩
  refine set_update_ints ((Walks.list (prog := P) (w := w) (A := A.in1) hh (h0.objs.size + 1) l neI items).toS) h0.objs.size nf ns hn hb (fun i v hv => ?_) (items.size - 0) 0 _ rfl (Nat.zero_le _) ⟨hit, hl.at fun o q => old _ o q⟩ ⟨0, Nat.le_refl 0, setR_new_at (Heap.get?_push_of_some _ (Heap.get?_push_size _ rfl))⟩ fun s' c hm hc hS => ?_
  · have hi2 : i < ns.length := by rw [← hn]; exact (Array.getElem?_eq_some_iff.mp hv).1
    obtain ⟨t, q⟩ := IntsAre.int_at hi i v (by rw [Array.getElem?_toList]; exact hv)
    refine ⟨ns[i], t, List.getElem?_eq_getElem hi2, ?_⟩
    rw [q, List.getD_eq_getElem?_getD, List.getElem?_eq_getElem hi2]
    rfl
  · obtain ⟨h', g', d', tk', os'⟩ := s'
    obtain rfl : g' = s.gens := hm.gens
    obtain rfl : d' = s.drawn := hm.drawn
    obtain rfl : os' = s.os := hm.os
    refine h h' tk' c hS (by rw [← hn]; exact hc) fun b o q => hm.heap b o (fun z => ?_) (old b o q)
    have hb0 : b < h0.objs.size := Heap.lt_size q
    have z2 : b = h0.objs.size ∨ b = h0.objs.size + 1 := by simpa using z
    rcases z2 with u | u <;> rw [u] at hb0
    · exact Nat.lt_irrefl _ hb0
    · exact Nat.lt_irrefl _ (Nat.lt_of_succ_lt hb0)
/-- set(xs) -/
theorem set_of_ints {l : Addr} {items : Array Value} {ns : List Int} {Q : Value → Shared → Prop} (hh : A.handled = none) (hl : s.heap.IsList l items) (hi : IntsAre items.toList ns) (hb : ns.length + 1 < scanBound)
    (h : ∀ (h' : Heap) (tk c : Nat), SetR w h' s.heap.objs.size (fun j => decide (j ∈ ns)) c → c ≤ ns.length → (∀ b o, s.heap.get? b = some o → h'.get? b = some o) → Q (.ref s.heap.objs.size) { s with heap := h', toks := tk }) :
    wpAny (model P w) A (call (.type "set") [.ref l]) Q E s := by
  have hm := F.called_set.made
  have hu := F.called_set.sub
  have ht := F.called_set.notType
  have hn := F.called_set.canCreate
  have hc := F.typeCall_set_1 (.ref l)
  have hi1 := F.called_set.init.lookup
  have hi2 := F.called_set.init.bind (.ref s.heap.objs.size)
  obtain ⟨c, tl, hr⟩ := F.called_set.mro
  have sz : (s.heap.push (setNil w)).objs.size = s.heap.objs.size + 1 := Heap.size_push ..
  have made : (s.heap.push (setNil w)).get? s.heap.objs.size = some (setNil w) := Heap.get?_push_size _ rfl
  have isS : Shared.TypeIs { s with heap := s.heap.push (setNil w) } (.ref s.heap.objs.size) "set" := ⟨_, made, rfl⟩
  refine wpAny_call (codeAny_of_tree (show wpAny _ _ (callAny (.type "set") _) _ _ _ from ?_))
  refine wpAny_pure ⟨Code.quiet_builtin _ (by decide +kernel), ?_⟩
  refine codeAny_builtin F.entry_type_call ?_
  rw [weight_type_call_type "set" [.ref l] [] |> fun e => Around.under_plain e rfl]
  repeat any_goals first | assumption | wp_step
  refine codeAny_mono (code_set_led1 (.ref l) (E := E) (Q₁ := fun obj s₁ => obj = .ref s.heap.objs.size ∧ s₁ = { s with heap := s.heap.push (setNil w) }) ⟨rfl, rfl⟩) fun r s₁ q => ?_
  match r, q with
  | .error _, q => exact q
  | .ok .next, q => exact q.elim
  | .ok .brk, q => exact q.elim
  | .ok .cont, q => exact q.elim
  | .ok (.ret obj), q =>
    obtain ⟨rfl, rfl⟩ := q
    repeat any_goals first | assumption | wp_step
    refine codeAny_mono (codeAny_call_builtin (R := wants (fun r s₂ => r = .none ∧ ∃ h' tk c, s₂ = { s with heap := h', toks := tk } ∧ SetR w h' s.heap.objs.size (fun j => decide (j ∈ ns)) c ∧ c ≤ ns.length ∧ ∀ b o, s.heap.get? b = some o → h'.get? b = some o) E)
      F.called_set.init.plain F.entry_set_init (check_set_init_1 isS ?_)) fun r₂ s₂ q₂ => ?_
    · have hl1 : (s.heap.push (setNil w)).IsList l items := hl.at fun o q => Heap.get?_push_of_some _ q
      obtain ⟨⟨oc, od, odt, osl⟩, hol, oc1, on, od1⟩ := hl
      simp only at oc1 od1
      subst oc1
      subst od1
      have hol' : (s.heap.push (setNil w)).get? l = some { cls := .type "list", dict := od, data := .seq items on, slots := osl } := Heap.get?_push_of_some _ hol
      have f1 := F.sub_list_set
      have f2 := F.sub_list_frozenset
      have f3 : (Value.type "list" == Value.type "dict") = false := by decide
      unfold Builtin.«set.__init__» noKeywords Builtin.Frozenset.updateFrom
      generalize hPI : pyIter = PI
      wp_walk
      subst hPI
      refine wpAny_pyIter_list hl1 (wpAny_bind (wpAny_runValue ?_))
      rw [sz]
      refine set_fill (h0 := s.heap) (s := { s with heap := s.heap.push (setNil w) }) (by simp [hh]) ⟨_, hol, rfl, _, rfl⟩ hi hb rfl fun h' tk c hS hc hk => ?_
      show wpAny _ _ _ _ _ _
      refine wpAny_pure ?_
      exact (show wpAny _ _ (ret Value.none) _ _ _ from wpAny_pure ⟨rfl, h', tk, c, rfl, hS, hc, hk⟩)
    · match r₂, q₂ with
      | .error _, q₂ => exact q₂
      | .ok .next, q₂ => exact q₂.elim
      | .ok .brk, q₂ => exact q₂.elim
      | .ok .cont, q₂ => exact q₂.elim
      | .ok (.ret _), q₂ =>
        obtain ⟨rfl, h', tk, c', rfl, hS, hc, hk⟩ := q₂
        repeat any_goals first | assumption | wp_step
        exact h _ _ _ hS hc hk
end
section
variable {X : Cx}
def rSetL (K : PySem.W.Frag) (w : World) : List V → Hp → VK → Prop := fun vs H Q => ∃ (a : Addr) (ns : List Int), vs = [V.ref a] ∧ SqL K H a (ns.map V.int) ∧ ns.length ≤ 1000 ∧
  ∀ p c, H p = none → c ≤ ns.length → Q (.ref p) (upd H p (SetO w p (fun j => decide (j ∈ ns)) c))
theorem cr_setL (hc : X.calm = true) : CallR X (.type "set") (rSetL X.K X.w) := by
  rintro pins s σ H vs us Q I r ⟨a, ns, rfl, hS, hb, q⟩
  rw [Vals.ref1 r]
  obtain ⟨its, rv, hl, hz⟩ := I.list hS
  refine set_of_ints (I.ok.hd hc) hl.isList (ns := ns) (by simpa using rv.ints) (Nat.lt_of_le_of_lt (Nat.succ_le_succ hb) (by decide)) fun h' tk c R hcn hk => ?_
  exact ⟨.ref _, upd H s.heap.objs.size (SetO X.w s.heap.objs.size (fun j => decide (j ∈ ns)) c), I.laid (t' := tk) hk (Nat.le_refl _) (setO_new R), rfl, q _ _ (I.hok.fresh (Nat.le_refl _)) hcn⟩
end
end Qz

/-! places ranked by how far they are; what arranged tells -/
namespace Lx
open PySem PySem.Spec PyProof.Rows L2 LamX NdefX
def ltF (f : Nat → Int) (i j : Nat) : Prop := f i < f j ∨ (f i = f j ∧ i < j)
theorem ltF_asym {f : Nat → Int} {i j : Nat} (a : ltF f i j) (b : ltF f j i) : False := by
  rcases a with a | a <;> rcases b with b | b <;> omega
/-- the places 0 .. m - 1 by f, like ones by themselves -/
structure Ranked (f : Nat → Int) (m : Nat) (out : List Nat) : Prop where
  perm : out.Perm (List.range m)
  ord : out.Pairwise (ltF f)
theorem pw_uniq {α : Type} {r : α → α → Prop} (as : ∀ x y, r x y → r y x → False) : ∀ {l m : List α}, l.Pairwise r → m.Pairwise r → l.Perm m → l = m
  | [], m, _, _, p => (List.nil_perm.mp p).symm
  | x :: l, [], _, _, p => nomatch (List.perm_nil.mp p)
  | x :: l, y :: m, h1, h2, p => by
    obtain ⟨a1, a2⟩ := List.pairwise_cons.mp h1
    obtain ⟨b1, b2⟩ := List.pairwise_cons.mp h2
    have e : x = y := by
      have hx : x ∈ y :: m := p.mem_iff.mp List.mem_cons_self
      have hy : y ∈ x :: l := p.mem_iff.mpr List.mem_cons_self
      rcases List.mem_cons.mp hx with hx | hx
      · exact hx
      · rcases List.mem_cons.mp hy with hy | hy
        · exact hy.symm
        · exact (as x y (a1 y hy) (b1 x hx)).elim
    subst e
    rw [pw_uniq as a2 b2 ((List.perm_cons x).mp p)]
theorem Ranked.uniq {f : Nat → Int} {m : Nat} {a b : List Nat} (h : Ranked f m a) (h' : Ranked f m b) : a = b :=
  pw_uniq (fun _ _ => ltF_asym) h.ord h'.ord (h.perm.trans h'.perm.symm)
theorem Ranked.congr {f g : Nat → Int} {m : Nat} {a : List Nat} (h : Ranked f m a) (e : ∀ i, i < m → f i = g i) : Ranked g m a := by
  refine ⟨h.perm, List.Pairwise.imp_of_mem (fun {i j} hi hj q => ?_) h.ord⟩
  have i1 := List.mem_range.mp (h.perm.mem_iff.mp hi)
  have j1 := List.mem_range.mp (h.perm.mem_iff.mp hj)
  unfold ltF at q ⊢
  rw [← e i i1, ← e j j1]
  exact q
/-- what a pair at a row's address holds -/
def pairK (H : Hp) (v : V) : Int × Int := match v with
  | .ref T => match H T with
    | some (.tup [.int a, .int b]) => (a, b)
    | _ => (0, 0)
  | _ => (0, 0)
theorem pairK_at {H : Hp} {T : Addr} {a b : Int} (h : H T = some (.tup [.int a, .int b])) : pairK H (.ref T) = (a, b) := by
  show (match H T with
    | some (.tup [.int a, .int b]) => (a, b)
    | _ => (0, 0)) = (a, b)
  rw [h]
/-- rows of (f i, i), sorted: the places are ranked -/
theorem ranked_of {H : Hp} {f : Nat → Int} {xs ys : List V} (hx : ∀ j, j < xs.length → ∃ T, xs[j]? = some (.ref T) ∧ H T = some (.tup [.int (f j), .int (j : Nat)])) (h1 : SrtO.Srtd (L2.ltP (pairK H)) ys) (h2 : SrtO.Stb (L2.ltP (pairK H)) ys xs) :
    Ranked f xs.length (ys.map fun v => (pairK H v).2.toNat) ∧ ∀ v ∈ ys, ∃ (T : Addr) (j : Nat), v = .ref T ∧ H T = some (.tup [.int (f j), .int (j : Nat)]) := by
  have mem : ∀ v ∈ xs, ∃ (T : Addr) (j : Nat), v = .ref T ∧ H T = some (.tup [.int (f j), .int (j : Nat)]) := fun v hv => by
    obtain ⟨j, hj, e⟩ := List.getElem_of_mem hv
    obtain ⟨T, e1, e2⟩ := hx j hj
    rw [List.getElem?_eq_getElem hj, e] at e1
    exact ⟨T, j, Option.some.inj e1, e2⟩
  have memy : ∀ v ∈ ys, ∃ (T : Addr) (j : Nat), v = .ref T ∧ H T = some (.tup [.int (f j), .int (j : Nat)]) := fun v hv => mem v (h2.perm.mem_iff.mp hv)
  have ex : xs.map (fun v => (pairK H v).2.toNat) = List.range xs.length := by
    refine List.ext_getElem? fun j => ?_
    by_cases hj : j < xs.length
    · obtain ⟨T, e1, e2⟩ := hx j hj
      rw [List.getElem?_map, e1, List.getElem?_range hj]
      show some (pairK H (.ref T)).2.toNat = some j
      rw [pairK_at e2]
      rfl
    · rw [List.getElem?_eq_none (by rw [List.length_map]; omega), List.getElem?_eq_none (by rw [List.length_range]; omega)]
  have perm : (ys.map fun v => (pairK H v).2.toNat).Perm (List.range xs.length) := by
    rw [← ex]
    exact h2.perm.map _
  refine ⟨⟨perm, ?_⟩, memy⟩
  have nd : (ys.map fun v => (pairK H v).2.toNat).Nodup := perm.nodup_iff.mpr List.nodup_range
  refine List.pairwise_map.mpr ?_
  refine List.Pairwise.imp_of_mem (fun {x y} mx my q => ?_) (h1.and (List.pairwise_map.mp nd))
  obtain ⟨q1, q2⟩ := q
  obtain ⟨T, i, rfl, e1⟩ := memy x mx
  obtain ⟨T', j, rfl, e2⟩ := memy y my
  rw [pairK_at e1, pairK_at e2] at q2 ⊢
  have q3 : SrtO.lexB (pairK H (.ref T')) (pairK H (.ref T)) = false := q1
  rw [pairK_at e1, pairK_at e2] at q3
  have q4 := SrtO.lexB_no.mp q3
  show ltF f i j
  unfold ltF
  have q5 : i ≠ j := q2
  have q6 : ¬ (f j < f i ∨ (f j = f i ∧ (j : Int) < (i : Int))) := q4
  omega
/-- how far the i-th of ns is from b -/
def farW (n b : Int) (ns : List Int) (i : Nat) : Int := (ns.getD i 0 - b) % n
/-- all are within the span from b -/
def inSpan (n sp b : Int) (ns : List Int) : Bool := ns.all fun x => decide ((x - b) % n ≤ sp)
/-- the shown numbers from which all are within the span, each once, rising -/
structure Begins (n sp : Int) (ns bs : List Int) : Prop where
  inc : bs.Pairwise (· < ·)
  mem : ∀ b, b ∈ bs ↔ b ∈ ns ∧ inSpan n sp b ns = true
theorem Begins.uniq {n sp : Int} {ns a b : List Int} (h : Begins n sp ns a) (h' : Begins n sp ns b) : a = b := by
  have key : ∀ {l m : List Int}, l.Pairwise (· < ·) → m.Pairwise (· < ·) → (∀ x, x ∈ l ↔ x ∈ m) → l = m := by
    intro l
    induction l with
    | nil =>
      intro m _ _ e
      cases m with
      | nil => rfl
      | cons y m => exact nomatch ((e y).mpr List.mem_cons_self)
    | cons x l ih =>
      intro m h1 h2 e
      cases m with
      | nil => exact nomatch ((e x).mp List.mem_cons_self)
      | cons y m =>
        obtain ⟨a1, a2⟩ := List.pairwise_cons.mp h1
        obtain ⟨b1, b2⟩ := List.pairwise_cons.mp h2
        have exy : x = y := by
          rcases List.mem_cons.mp ((e x).mp List.mem_cons_self) with q | q
          · exact q
          · rcases List.mem_cons.mp ((e y).mpr List.mem_cons_self) with q2 | q2
            · exact q2.symm
            · have := a1 y q2
              have := b1 x q
              omega
        subst exy
        refine congrArg _ (ih a2 b2 fun z => ⟨fun hz => ?_, fun hz => ?_⟩)
        · rcases List.mem_cons.mp ((e z).mp (List.mem_cons_of_mem _ hz)) with q | q
          · rw [q] at hz
            exact absurd (a1 x hz) (by omega)
          · exact q
        · rcases List.mem_cons.mp ((e z).mpr (List.mem_cons_of_mem _ hz)) with q | q
          · rw [q] at hz
            exact absurd (b1 x hz) (by omega)
          · exact q
  exact key h.inc h'.inc fun x => (h.mem x).trans (h'.mem x).symm
/-! ### promises -/
/-- the table at P may have grown -/
def ButP (P : Addr) (H H' : Hp) : Prop := GxR.TabG H' P ∧ ∀ b o, b ≠ P → H b = some o → H' b = some o
theorem ButP.trans {P : Addr} {H H1 H2 : Hp} (a : ButP P H H1) (b : ButP P H1 H2) : ButP P H H2 := ⟨b.1, fun c o n e => b.2 c o n (a.2 c o n e)⟩
theorem ButP.same {P : Addr} {H H1 H2 : Hp} (a : ButP P H H1) (s : Same H1 H2) : ButP P H H2 := ⟨by
  obtain ⟨ps, e, t⟩ := a.1
  exact ⟨ps, s _ _ e, t⟩, fun c o n e => s _ _ (a.2 c o n e)⟩
theorem ButP.refl {P : Addr} {H : Hp} (t : GxR.TabG H P) : ButP P H H := ⟨t, fun _ _ _ e => e⟩
theorem ButP.of {P : Addr} {H H' : Hp} (h : GxR.Tabbed P H H') : ButP P H H' := ⟨h.1, fun b o n e => by rw [h.2 b n]; exact e⟩
theorem tabG_same {P : Addr} {H H1 : Hp} (t : GxR.TabG H P) (s : Same H H1) : GxR.TabG H1 P := by
  obtain ⟨ps, e, t⟩ := t
  exact ⟨ps, s _ _ e, t⟩
theorem ButP.ext {P : Addr} {H H' : Hp} (h : ButP P H H') (t : GxR.TabG H P) : ExtN H H' := fun b o e n => h.2 b o (fun z => by
  obtain ⟨ps, e2, _⟩ := t
  rw [z, e2] at e
  exact n ps (Option.some.inj e).symm) e
theorem ButP.seq {K : PySem.W.Frag} {P a : Addr} {H H' : Hp} {xs : List V} (h : ButP P H H') (t : GxR.TabG H P) (hS : SqL K H a xs) : SqL K H' a xs := by
  obtain ⟨ps, e2, _⟩ := t
  rcases hS with (q | ⟨o, q⟩) | q
  · exact .inl (.inl (h.2 _ _ (fun z => by rw [z, e2] at q; cases q) q))
  · exact .inl (.inr ⟨o, h.2 _ _ (fun z => by rw [z, e2] at q; cases q) q⟩)
  · exact .inr q
theorem ButP.put {P D : Addr} {H H' : Hp} {l : List V} {o : HO} (h : ButP P H H') (n : H D = none) (e : H' D = some (.lst l)) : ButP P H (upd H' D o) := by
  obtain ⟨⟨ps, t1, t2⟩, k⟩ := h
  have ne : P ≠ D := fun z => by
    rw [z, e] at t1
    cases t1
  exact ⟨⟨ps, by rw [upd_ne ne]; exact t1, t2⟩, fun b u hb q => by rw [upd_ne (ne_of_none q n)]; exact k b u hb q⟩
theorem ButP.free {P p : Addr} {H H' : Hp} (h : ButP P H H') (n : H' p = none) : H p = none := by
  cases e : H p with
  | none => rfl
  | some o =>
    obtain ⟨⟨ps, t1, t2⟩, k⟩ := h
    by_cases z : p = P
    · rw [z, t1] at n
      cases n
    · rw [k p o z e] at n
      cases n
def spLie (K : PySem.W.Frag) (P1 : Addr) : Sp := fun vs H Q _ => ∃ (n sp b : Int) (a : Addr) (ns : List Int), vs = [.int n, .int sp, .int b, .ref a] ∧ Wh n ∧ Sn n b ∧ SqL K H a (ns.map V.int) ∧ (∀ x ∈ ns, Sn n x) ∧ GxR.TabG H P1 ∧
  ∀ H', GxR.Tabbed P1 H H' → Q (.bl (inSpan n sp b ns)) H'
def spPlaces (K : PySem.W.Frag) : Sp := fun vs H Q _ => ∃ (n b : Int) (a : Addr) (ns : List Int), vs = [.int n, .int b, .ref a] ∧ Wh n ∧ Sn n b ∧ SqL K H a (ns.map V.int) ∧ (∀ x ∈ ns, Sn n x) ∧ ns.length ≤ 1000 ∧
  ∀ (H' : Hp) (p : Addr) (out : List Nat), Same H H' → H p = none → H' p = some (.lst (out.map fun i => V.int (i : Nat))) → Ranked (farW n b ns) ns.length out → Q (.ref p) H'
/-- what arranged does: refusals first (nothing but the table P1 is touched) -/
def spArr (K : PySem.W.Frag) (CW CS CP CN P1 : Addr) : Sp := fun vs H Q E => ∃ (n sp : Int) (a : Addr) (ns : List Int), vs = [.int n, .int sp, .ref a] ∧ SqL K H a (ns.map V.int) ∧ Sm n ∧ Sm sp ∧ ns.length ≤ 1000 ∧ (∀ x ∈ ns, Sm x) ∧ GxR.TabG H P1 ∧
  Wh n ∧ (¬ Sn n sp → ∀ H', Same H H' → E (.ref CP) none H') ∧
  (Sn n sp → (60 < ns.length ∨ ∃ x ∈ ns, ¬ Sn n x) → ∀ H', Same H H' → E (.ref CS) none H') ∧
  (Sn n sp → ns.length ≤ 60 → (∀ x ∈ ns, Sn n x) →
    (ns = [] → ∀ (H' : Hp) (p : Addr), Same H H' → H p = none → H' p = some (.lst []) → Q (.ref p) H') ∧
    (ns ≠ [] → ∀ bs, Begins n sp ns bs → ∀ H', ButP P1 H H' →
      (bs = [] → E (.ref CN) none H') ∧ (1 < bs.length → Q .non H') ∧
      (∀ b, bs = [b] → ∀ (p : Addr) (out : List Nat), H p = none → H' p = some (.lst (out.map fun i => V.int (i : Nat))) → Ranked (farW n b ns) ns.length out → Q (.ref p) H')))
end Lx

/-! sorted(e, key=lambda x: (y[x], x)) -/
namespace Qz
open PySem PySem.Spec PyProof.Rows L2 LamX NdefX Lx
section
variable {P : Program} {w : World} {A : Around} {env : Env} {s : Shared}
theorem qv_item {a b : Expr} {l : Addr} {its : List Value} {ks : List Int} {n : Int} {pos : Pos} (ha : QV P w A env a (.ref l) s) (hb : QV P w A env b (.int n) s) (hl : s.heap.IsList l its.toArray) (rv : Vals (ks.map V.int) its) (h0 : 0 ≤ n) (h1 : n < ks.length) (hz : ks.length ≤ 1000)
    (hs : PlainIx b) : QV P w A env (.Subscript a b pos) (.int (ks.getD n.toNat 0)) s := by
  intro s1 E k
  refine Subscript_ (wpAny_mono (ha s1 E k) (fun u s2 q => wpAny_mono (hb s2 E (kp_trans k q.2)) (fun u' s3 q3 => ?_) fun _ _ z => z) fun _ _ z => z)
  obtain ⟨rfl, k2⟩ := q
  obtain ⟨⟨t, rfl⟩, k3⟩ := q3
  have hn : ks[n.toNat]? = some (ks.getD n.toNat 0) := by
    rw [List.getD_eq_getElem?_getD, List.getElem?_eq_getElem (show n.toNat < ks.length by omega)] <;> rfl
  obtain ⟨u2, e2, t2, rfl⟩ := rv.get (i := n.toNat) (x := .int (ks.getD n.toNat 0)) (by rw [List.getElem?_map, hn] <;> rfl)
  exact item_listR (hl.at fun o q => kp_at (kp_trans k (kp_trans k2 k3)) _ o q) h0 (by omega) (by simpa using e2) ⟨⟨_, rfl⟩, kp_trans k2 k3⟩ (hs _ _)
/-- the key's code -/
abbrev keyB (x y : Str) (k : Nat) (p1 p2 p3 p4 p5 : Pos) : Expr := .Tuple [.Subscript (.Name y p1) (.Name x p2) p3, .Name x p4] k p5
theorem key_call {f l cc c' : Addr} {qual : Str} {params : Arguments} {scope : Scope} {cl : List (Str × Addr)} {pm ctv : Value} {x y : Str} {k : Nat} {p1 p2 p3 p4 p5 : Pos} {its : List Value} {ks : List Int} {n : Int} {t : Tok} {E : Value → Shared → Prop}
    (hdep : A.depth < recursionLimit) (ho : s.heap.get? f = some (PySem.W.kla_obj "<lambda>" qual params (keyB x y k p1 p2 p3 p4 p5) scope cl pm c' ctv)) (lim : s.heap.NoLimit)
    (hc : ∃ (oc : Obj) (vs : Array Value) (t : Tok), s.heap.get? c' = some oc ∧ oc.data = .fields vs ∧ vs[1]? = some (.str qual t))
    (hb : bindArgs (PySem.W.kla_fn "<lambda>" qual params (keyB x y k p1 p2 p3 p4 p5) scope cl pm (.ref c') ctv) ⟨[.int n t], []⟩ = pure [(x, .int n t)])
    (sk : scope.kind = .function) (sc : scope.isCoroutine = false) (sg : scope.isGenerator = false) (nc : ∀ y ∈ scope.names, y.2 ≠ .cell) (hx : scope.names.lookup x = some .local) (hy : scope.names.lookup y = some .free)
    (hcl : cl.lookup y = some cc) (hcell : s.heap.IsCell cc (some (.ref l))) (hl : s.heap.IsList l its.toArray) (rv : Vals (ks.map V.int) its) (h0 : 0 ≤ n) (h1 : n < ks.length) (hz : ks.length ≤ 1000)
    (xd : (x == ("__debug__" : Str)) = false) (yd : (y == ("__debug__" : Str)) = false) (yc : (y == ("__classdict__" : Str)) = false) :
    wpAny (model P w) A (call (.ref f) [.int n t]) (PySem.W.KeyPure (.tuple [.int (ks.getD n.toNat 0), .int n]) s) E s := by
  obtain ⟨oc, vs, tt, hoc, hdc, hvc⟩ := hc
  refine wpAny_call (PySem.W.kla_callFunE hdep ho rfl sc sg rfl ⟨c', oc, vs, tt, rfl, hoc, hdc, hvc⟩ ?_)
  rw [hb]
  refine wpAny_pure (wpAny_newFunctionEnv nc (fun z hz => by rw [List.mem_singleton.mp hz]; exact hx) (fun h₁ hns hsb => ⟨lim.fresh _ hsb, ?_⟩) sk)
  show codeAny _ _ (.expr (keyB x y k p1 p2 p3 p4 p5) (PySem.W.envX qual scope s.heap.objs.size f (.ref c') cl)) _ _
  have kp : ∀ b o, s.heap.get? b = some o → h₁.get? b = some o := fun b o e => hsb.extBut b o (Nat.ne_of_lt (Heap.lt_size e)) (Heap.get?_push_of_some _ e)
  have qx : ∀ (A' : Around) p, QV P w A' (PySem.W.envX qual scope s.heap.objs.size f (.ref c') cl) (.Name x p) (.int n) { s with heap := h₁, toks := s.toks + ([(x, Value.int n t)] : List (Str × Value)).length } := fun A' p =>
    qv_local sk hx hns (u := .int n t) (by simp) ⟨t, rfl⟩ xd
  have qy : ∀ (A' : Around) p, QV P w A' (PySem.W.envX qual scope s.heap.objs.size f (.ref c') cl) (.Name y p) (.ref l) { s with heap := h₁, toks := s.toks + ([(x, Value.int n t)] : List (Str × Value)).length } := fun A' p =>
    qv_free sk hy hcl (by obtain ⟨o, ho, hd⟩ := hcell; exact ⟨o, kp _ _ ho, hd⟩) rfl yd yc
  have qa : ∀ A' : Around, QA P w A' (PySem.W.envX qual scope s.heap.objs.size f (.ref c') cl) [.Subscript (.Name y p1) (.Name x p2) p3, .Name x p4] [.int (ks.getD n.toNat 0), .int n] { s with heap := h₁, toks := s.toks + ([(x, Value.int n t)] : List (Str × Value)).length } := fun A' =>
    qa_cons (qv_item (qy _ p1) (qx _ p2) (hl.at fun o q => kp _ o q) rv h0 h1 hz (fun _ _ => rfl)) (qa_cons (qx _ p4) qa_nil)
  refine PySem.W.kla_codeExpr (wpAny_Tuple_spliced (wpAny_mono (qa _ p5 _ _ (kp_refl _)) (fun us s2 q => ?_) fun _ _ z => z))
  obtain ⟨r, h2, tk2, rfl, k2⟩ := q
  cases r with
  | cons r1 r =>
    cases r with
    | cons r2 r =>
      cases r
      obtain ⟨t1, rfl⟩ := r1
      obtain ⟨t2, rfl⟩ := r2
      refine ⟨by show 2 ≤ sizeLine; decide, ?_⟩
      refine ⟨_, _, rfl, fun b o e => Heap.get?_push_of_some _ (k2 b o (kp b o e)), ?_⟩
      exact .tuple (Heap.get?_push_size _ rfl) rfl rfl (.cons (.int _ _) (.cons (.int _ _) .nil))
end
theorem sql_ext {K : PySem.W.Frag} {H H' : Hp} {a : Addr} {xs : List V} (x : ExtN H H') (h : SqL K H a xs) : SqL K H' a xs := by
  rcases h with (h | ⟨o, h⟩) | h
  · exact .inl (.inl (x _ _ h fun _ z => nomatch z))
  · exact .inl (.inr ⟨o, x _ _ h fun _ z => nomatch z⟩)
  · exact .inr h
theorem each_of : ∀ {ns : List Int} {us : List Value}, Vals (ns.map V.int) us → PySem.W.EachIs (fun v n => ∃ t, v = Value.int n t) us ns
  | [], _, .nil => .nil
  | n :: ns, _, .cons r t => .cons r (each_of t)
theorem of_each : ∀ {us : List Value} {ns : List Int}, PySem.W.EachIs (fun v n => ∃ t, v = Value.int n t) us ns → Vals (ns.map V.int) us
  | _, _, .nil => .nil
  | _, _, .cons r t => .cons r (of_each t)
/-- the order: by f, then by itself -/
def keyLe (ks : List Int) (p q : Int) : Bool := decide (ks.getD p.toNat 0 < ks.getD q.toNat 0 ∨ (ks.getD p.toNat 0 = ks.getD q.toNat 0 ∧ p ≤ q))
section
variable {X : Cx}
def tSortK (X : Cx) (T : List (Addr × Str)) (P : Addr) (i : Nat) (te : TE) : TE := fun σ H Q => te σ H fun v H1 => ∃ (a : Addr) (ns : List Int) (l : Addr) (ks : List Int), v = .ref a ∧ SqL X.K H1 a (ns.map V.int) ∧ σ[i]? = some (some (.ref l)) ∧ SqL X.K H1 l (ks.map V.int) ∧
  (∀ n ∈ ns, 0 ≤ n ∧ n < ks.length) ∧ ks.length ≤ 1000 ∧ ns.length ≤ 1000 ∧ Tabs T H1 ∧
  ∀ (H2 : Hp) (p : Addr), ExtN H1 H2 → Tabs T H2 → (∀ b ps, b ≠ P → H1 b = some (.tbl ps) → H2 b = some (.tbl ps)) → H2 p = some (.lst ((ns.mergeSort (keyLe ks)).map V.int)) → Q (.ref p) H2
theorem pe_sortK {T : List (Addr × Str)} {c P : Addr} {x y : Str} {i j k : Nat} {e : Expr} {params : Arguments} {scope : Scope} {p1 p2 p3 p4 p5 lpos kpos p pos : Pos} {te : TE} (hr : Room j X.A) (hg : Gl X "sorted") (hm : X.mg "sorted" = none)
    (TB : LamX.TabB X.base X.mg c P) (hcode : X.env.code = .ref c) (hmT : (P, X.env.qual ++ "<lambda>") ∈ T) (hu : ∀ p ∈ T, p.1 = P → p.2 = X.env.qual ++ "<lambda>") (he : PE X e te) (hN : X.N[i]? = some y) (hyc : X.env.scope.names.lookup y = some .cell)
    (sk : scope.kind = .function) (sc : scope.isCoroutine = false) (sg : scope.isGenerator = false) (nc : ∀ y ∈ scope.names, y.2 ≠ .cell) (hx : scope.names.lookup x = some .local) (hy : scope.names.lookup y = some .free)
    (hfree : ∀ z ∈ scope.names, z.2 = .free → X.env.scope.names.lookup z.1 = some .cell)
    (hb : ∀ (pm ctv : Value) (c' : Addr) (n : Int) (t : Tok), bindArgs (PySem.W.kla_fn "<lambda>" (X.env.qual ++ "<lambda>") params (keyB x y k p1 p2 p3 p4 p5) scope (cloFrom X.env.cells scope.names []) pm (.ref c') ctv) ⟨[.int n t], []⟩ = pure [(x, .int n t)])
    (xd : (x == ("__debug__" : Str)) = false := by decide) (yd : (y == ("__debug__" : Str)) = false := by decide) (yc : (y == ("__classdict__" : Str)) = false := by decide) (hdef : defaultsOf params X.env = ([], []) := by rfl)
    (hst : starEach [e] X.env = (false, eval e X.env) :: starEach [] X.env := by rfl) :
    PE X (.Call (.Name "sorted" p) [e] [⟨some "key", .Lambda params (keyB x y k p1 p2 p3 p4 p5) scope lpos, kpos⟩] pos) (tSortK X T P i te) := by
  refine ⟨fun pins s σ H Q I h => ?_⟩
  refine wpAny_Call_Name_kw (ld_blt I hg hm (by rfl) ?_ (by decide) (by decide))
  have pa : PA X [e] (tCons te tNil) := pa_cons he pa_nil hst
  refine PyProof.Rows.callWith_kw (thn (pa.run pos pins s σ H (fun vs H1 => ∃ v, vs = [v] ∧ ∃ (a : Addr) (ns : List Int) (l : Addr) (ks : List Int), v = .ref a ∧ SqL X.K H1 a (ns.map V.int) ∧ σ[i]? = some (some (.ref l)) ∧ SqL X.K H1 l (ks.map V.int) ∧
    (∀ n ∈ ns, 0 ≤ n ∧ n < ks.length) ∧ ks.length ≤ 1000 ∧ ns.length ≤ 1000 ∧ Tabs T H1 ∧
    ∀ (H2 : Hp) (p : Addr), ExtN H1 H2 → Tabs T H2 → (∀ b ps, b ≠ P → H1 b = some (.tbl ps) → H2 b = some (.tbl ps)) → H2 p = some (.lst ((ns.mergeSort (keyLe ks)).map V.int)) → Q (.ref p) H2) I ?_) fun us s1 ⟨vs, H1, I1, r1, q1⟩ => ?_) (by rw [hst]; rfl) (by rw [hst]; rfl) (by rfl) (by rfl)
  · have e2 : (fun (v : V) (H1 : Hp) => tNil σ H1 fun vs H2 => ∃ v', v :: vs = [v'] ∧ ∃ (a : Addr) (ns : List Int) (l : Addr) (ks : List Int), v' = .ref a ∧ SqL X.K H2 a (ns.map V.int) ∧ σ[i]? = some (some (.ref l)) ∧ SqL X.K H2 l (ks.map V.int) ∧
        (∀ n ∈ ns, 0 ≤ n ∧ n < ks.length) ∧ ks.length ≤ 1000 ∧ ns.length ≤ 1000 ∧ Tabs T H2 ∧
        ∀ (H3 : Hp) (p : Addr), ExtN H2 H3 → Tabs T H3 → (∀ b ps, b ≠ P → H2 b = some (.tbl ps) → H3 b = some (.tbl ps)) → H3 p = some (.lst ((ns.mergeSort (keyLe ks)).map V.int)) → Q (.ref p) H3) = fun v H1 => ∃ (a : Addr) (ns : List Int) (l : Addr) (ks : List Int), v = .ref a ∧ SqL X.K H1 a (ns.map V.int) ∧ σ[i]? = some (some (.ref l)) ∧ SqL X.K H1 l (ks.map V.int) ∧
        (∀ n ∈ ns, 0 ≤ n ∧ n < ks.length) ∧ ks.length ≤ 1000 ∧ ns.length ≤ 1000 ∧ Tabs T H1 ∧
        ∀ (H2 : Hp) (p : Addr), ExtN H1 H2 → Tabs T H2 → (∀ b ps, b ≠ P → H1 b = some (.tbl ps) → H2 b = some (.tbl ps)) → H2 p = some (.lst ((ns.mergeSort (keyLe ks)).map V.int)) → Q (.ref p) H2 := by
      funext v H1
      refine propext ⟨fun ⟨v', e, q⟩ => ?_, fun q => ⟨v, rfl, q⟩⟩
      rw [(List.cons.inj e).1]
      exact q
    show te σ H _
    rw [e2]
    exact h
  obtain ⟨v, rfl, a, ns, l, ks, rfl, hS, hσ, hL, hrg, hz, hzn, hT, q⟩ := q1
  rw [Vals.ref1 r1]
  show wpAny _ _ (evalAll [(do let v ← eval (.Lambda params (keyB x y k p1 p2 p3 p4 p5) scope lpos) X.env; standAt pos; pure v)]) _ _ s1
  have hfr : ∀ z ∈ scope.names, z.2 = .free → ∃ c, X.env.cells.lookup z.1 = some c := fun z hz2 e => I.ok.has _ (.inl (hfree z hz2 e))
  refine wpAny_evalAll_cons (wpAny_bind (lam_mk2 I1 TB hcode hmT hu hT hdef hfr fun f c' H2 s2 I2 x2 t2 o2 n2 e1 e2 => wpAny_bind (wpAny_standAt (wpAny_pure (wpAny_evalAll_nil ?_)))))
  show wpAny _ _ (call (.builtin "sorted") [.ref a] [("key", .ref f)]) _ _ s2
  obtain ⟨its, rv, pl, hzz⟩ := I2.list (sql_ext x2 hS)
  obtain ⟨kts, rk, pk, hkz⟩ := I2.list (sql_ext x2 hL)
  obtain ⟨pm, ctv, ho⟩ := lmO_at I2.hok e1
  obtain ⟨c9, oc, ovs, ot, ec, hoc, hod, hov⟩ := codeO_at I2.hok e2
  obtain rfl : c' = c9 := by injection ec
  obtain ⟨m, _, hlk⟩ := I2.loc
  obtain ⟨u, ru, hu2⟩ := hlk i y (.ref l) hN hσ (.inr (.inl hyc))
  obtain rfl : u = Value.ref l := ru
  have hcell : ∃ cc, X.env.cells.lookup y = some cc ∧ s2.heap.IsCell cc (some (.ref l)) := by
    rcases hu2 with ⟨k', _⟩ | ⟨_, cc, h1, h2⟩
    · have k' : X.env.scope.names.lookup y = some .local := k'
      rw [hyc] at k'
      cases k'
    · exact ⟨cc, h1, h2⟩
  obtain ⟨cc, hcc, ⟨co, hco, hcd⟩⟩ := hcell
  refine PySem.W.sorted_key_data (b := false) (bs := ns) (vs := its) (R := fun v n => ∃ t, v = Value.int n t) (fun n => .tuple [.int (ks.getD n.toNat 0), .int n]) pl.isList (each_of rv) (PySem.W.AllAlike.of fun _ _ => by simp [PySem.W.alike, PySem.W.alikeAll]) (PySem.W.Sortable.tuples fun _ => ⟨_, _, rfl⟩)
    (by rw [sizeLine_eq]; omega) (fun n _ => ?_) (ksk_s1 _ _) (fun _ => ksk_l1 _ _) (fun _ => ksk_t1 _ _) (fun v n hv hn h tk kp => ?_) fun out c2 h' tk kp fr hD hlen eo => ?_
  · have hd : (PyData.tuple [.int (ks.getD n.toNat 0), .int n]).depth = 1 := by simp [PyData.depth, PyData.depthAll]
    have := hr.un
    omega
  · obtain ⟨t, rfl⟩ := hv
    obtain ⟨n0, n1⟩ := hrg n hn
    exact key_call (A := X.A.in1.in1) (s := { s2 with heap := h, toks := tk }) (by have := hr.dp; show X.A.depth < _; omega) (kp _ _ ho) (I2.nolimit.keeps kp) ⟨oc, ovs, ot, kp _ _ hoc, hod, hov⟩ (hb pm ctv c' n t) sk sc sg nc hx hy (clo_at hy hcc) ⟨co, kp _ _ hco, hcd⟩
      (pk.isList.at fun o q => kp _ o q) rk n0 n1 hz xd yd yc
  · rw [PySem.W.dataLe_ii (β := Int) (fun p => ks.getD p.toNat 0) (fun p => p)] at eo
    have rv2 : Vals ((ns.mergeSort (keyLe ks)).map V.int) out := of_each eo
    have hp : H2 (s2.heap.objs.size + 1) = none := I2.hok.fresh (Nat.le_succ _)
    refine ⟨.ref (s2.heap.objs.size + 1), upd H2 (s2.heap.objs.size + 1) (.lst ((ns.mergeSort (keyLe ks)).map V.int)), I2.laid (t' := tk) kp (Nat.le_succ _) ⟨?_, out, c2, rv2, hD⟩, rfl, ?_⟩
    · rw [rv2.length, hlen, sizeLine_eq]
      omega
    · exact q _ _ (x2.trans (.of (same_new hp))) (t2.ext (same_new hp)) (fun b ps hb e => same_new hp _ _ (o2 b ps hb e)) upd_same
end
end Qz
namespace Lx
open PySem PySem.Spec PyProof.Rows L2 LamX NdefX
def spSeen (K : PySem.W.Frag) : Sp := fun vs H Q _ => ∃ (S : Addr) (n most : Int), vs = [.ref S, .int n, .int most] ∧ Wh n ∧ StAt K S H ∧ 0 ≤ most ∧ most ≤ 59 ∧
  ∀ (p pt ps : Addr) (ts : List Int) (H' : Hp), (ts.length : Int) ≤ most + 1 → (∀ t ∈ ts, Sm t) → But S H H' → StAt K S H' →
    H' p = some (.tup [.ref pt, .ref ps]) → H' pt = some (.lst (ts.map V.int)) → H' ps = some (.lst ((ts.map (· % n)).map V.int)) → Q (.ref p) H'
end Lx

/-! times within a width: what the wheel shows of them -/
namespace Lx
open PySem PySem.Spec PyProof.Rows L2 LamX NdefX Qz
theorem win_sub {n x m : Int} (h0 : 0 ≤ x - m) (h1 : x - m < n) : (x % n - m % n) % n = x - m := by
  rw [← Int.sub_emod]
  exact Int.emod_eq_of_lt h0 h1
theorem win_neg {n x m : Int} (h0 : x < m) (h1 : m - x < n) : (x % n - m % n) % n = n - (m - x) := by
  rw [← Int.sub_emod]
  have e : (x - m) % n = (x - m + n) % n := by rw [Int.add_emod_right]
  rw [e]
  have := Int.emod_eq_of_lt (a := x - m + n) (b := n) (by omega) (by omega)
  rw [this]
  omega
theorem getD_map_mod {n : Int} {ts : List Int} {i : Nat} (h : i < ts.length) : (ts.map (· % n)).getD i 0 = ts.getD i 0 % n := by
  rw [List.getD_eq_getElem?_getD, List.getD_eq_getElem?_getD, List.getElem?_map, List.getElem?_eq_getElem h]
  rfl
theorem getD_mem {ts : List Int} {i : Nat} (h : i < ts.length) : ts.getD i 0 ∈ ts := by
  rw [List.getD_eq_getElem?_getD, List.getElem?_eq_getElem h]
  exact List.getElem_mem h
/-- ts lies within wide from m on -/
structure Win (ts : List Int) (m wide : Int) : Prop where
  mem : m ∈ ts
  low : ∀ x ∈ ts, m ≤ x
  high : ∀ x ∈ ts, x - m ≤ wide
theorem Win.begin {ts : List Int} {m wide n sp : Int} (W : Win ts m wide) (h1 : wide < n) (h2 : wide ≤ sp) : inSpan n sp (m % n) (ts.map (· % n)) = true := by
  unfold inSpan
  rw [List.all_eq_true]
  intro y hy
  obtain ⟨x, hx, rfl⟩ := List.mem_map.mp hy
  have a := W.low x hx
  have b := W.high x hx
  rw [win_sub (by omega) (by omega)]
  exact decide_eq_true (by omega)
theorem Win.in_ {ts : List Int} {m wide n sp : Int} {bs : List Int} (W : Win ts m wide) (h1 : wide < n) (h2 : wide ≤ sp) (B : Begins n sp (ts.map (· % n)) bs) : m % n ∈ bs :=
  (B.mem _).mpr ⟨List.mem_map_of_mem W.mem, W.begin h1 h2⟩
theorem Win.ranked {ts : List Int} {m wide n : Int} {out : List Nat} (W : Win ts m wide) (h1 : wide < n) (R : Ranked (farW n (m % n) (ts.map (· % n))) ts.length out) : Ranked (fun i => ts.getD i 0) ts.length out := by
  have R2 := R.congr (g := fun i => ts.getD i 0 - m) fun i hi => by
    unfold farW
    rw [getD_map_mod hi]
    have a := W.low _ (getD_mem hi)
    have b := W.high _ (getD_mem hi)
    exact win_sub (by omega) (by omega)
  refine ⟨R2.perm, R2.ord.imp fun {i j} q => ?_⟩
  have q : ts.getD i 0 - m < ts.getD j 0 - m ∨ (ts.getD i 0 - m = ts.getD j 0 - m ∧ i < j) := q
  show ts.getD i 0 < ts.getD j 0 ∨ (ts.getD i 0 = ts.getD j 0 ∧ i < j)
  omega
/-- two that both begin: the span is no less than half the wheel -/
theorem two_begins {n sp : Int} {ns bs : List Int} (B : Begins n sp ns bs) (hs : ∀ x ∈ ns, Sn n x) (h : 1 < bs.length) : n ≤ 2 * sp := by
  match bs, h, B with
  | [], h, _ => exact absurd h (by simp)
  | [_], h, _ => exact absurd h (by simp)
  | b :: c :: r, _, B =>
    have hbc : b < c := (List.pairwise_cons.mp B.inc).1 c List.mem_cons_self
    obtain ⟨mb, ib⟩ := (B.mem b).mp List.mem_cons_self
    obtain ⟨mc, ic⟩ := (B.mem c).mp (List.mem_cons_of_mem _ List.mem_cons_self)
    have h1 : (c - b) % n ≤ sp := of_decide_eq_true (List.all_eq_true.mp ib c mc)
    have h2 : (b - c) % n ≤ sp := of_decide_eq_true (List.all_eq_true.mp ic b mb)
    obtain ⟨b0, b1⟩ := hs b mb
    obtain ⟨c0, c1⟩ := hs c mc
    have e1 : (c - b) % n = c - b := Int.emod_eq_of_lt (by omega) (by omega)
    have e2 : (b - c) % n = n - (c - b) := by
      have e : (b - c) % n = (b - c + n) % n := by rw [Int.add_emod_right]
      rw [e, Int.emod_eq_of_lt (by omega) (by omega)]
      omega
    omega
def uptoI (m : Nat) : List Int := (List.range m).map fun i : Nat => Int.ofNat i
theorem rgV_upto (m : Nat) : rgV 0 (m : Int) = (uptoI m).map V.int := by
  unfold rgV uptoI
  rw [List.map_map, show ((m : Int) - 0).toNat = m by omega]
  refine List.map_congr_left fun i _ => ?_
  show V.int (0 + (i : Int)) = V.int (i : Int)
  rw [Int.zero_add]
theorem mem_upto {m : Nat} {x : Int} (h : x ∈ uptoI m) : 0 ≤ x ∧ x < m := by
  obtain ⟨i, hi, rfl⟩ := List.mem_map.mp h
  have := List.mem_range.mp hi
  show 0 ≤ (i : Int) ∧ (i : Int) < m
  omega
theorem len_upto (m : Nat) : (uptoI m).length = m := by
  unfold uptoI
  rw [List.length_map, List.length_range]
/-- the places sorted by their numbers, like ones by themselves -/
theorem sorted_ranked (ks : List Int) : Ranked (fun i => ks.getD i 0) ks.length (((uptoI ks.length).mergeSort (keyLe ks)).map Int.toNat) := by
  have tr : ∀ a b c : Int, keyLe ks a b = true → keyLe ks b c = true → keyLe ks a c = true := fun a b c h1 h2 => by
    have h1 := of_decide_eq_true h1
    have h2 := of_decide_eq_true h2
    exact decide_eq_true (by omega)
  have to : ∀ a b : Int, (keyLe ks a b || keyLe ks b a) = true := fun a b => by
    rw [Bool.or_eq_true]
    by_cases h : ks.getD a.toNat 0 < ks.getD b.toNat 0 ∨ (ks.getD a.toNat 0 = ks.getD b.toNat 0 ∧ a ≤ b)
    · exact .inl (decide_eq_true h)
    · exact .inr (decide_eq_true (by omega))
  have pm := List.mergeSort_perm (uptoI ks.length) (keyLe ks)
  have pw := List.pairwise_mergeSort tr to (uptoI ks.length)
  have p2 : (((uptoI ks.length).mergeSort (keyLe ks)).map Int.toNat).Perm (List.range ks.length) := by
    have := pm.map Int.toNat
    have e : (uptoI ks.length).map Int.toNat = List.range ks.length := by
      unfold uptoI
      rw [List.map_map]
      exact (List.map_congr_left fun i _ => rfl).trans (List.map_id _)
    rw [e] at this
    exact this
  refine ⟨p2, List.pairwise_map.mpr ?_⟩
  have nd : (((uptoI ks.length).mergeSort (keyLe ks)).map Int.toNat).Nodup := p2.nodup_iff.mpr List.nodup_range
  refine List.Pairwise.imp_of_mem (fun {x y} mx my q => ?_) (pw.and (List.pairwise_map.mp nd))
  obtain ⟨q1, q2⟩ := q
  have q1 := of_decide_eq_true q1
  obtain ⟨i, _, rfl⟩ := List.mem_map.mp (pm.mem_iff.mp mx)
  obtain ⟨j, _, rfl⟩ := List.mem_map.mp (pm.mem_iff.mp my)
  have q2 : i ≠ j := q2
  have q1 : ks.getD i 0 < ks.getD j 0 ∨ (ks.getD i 0 = ks.getD j 0 ∧ (i : Int) ≤ (j : Int)) := q1
  show ltF _ i j
  unfold ltF
  show ks.getD i 0 < ks.getD j 0 ∨ (ks.getD i 0 = ks.getD j 0 ∧ i < j)
  omega
theorem sorted_is {ks : List Int} {out : List Nat} (R : Ranked (fun i => ks.getD i 0) ks.length out) : (uptoI ks.length).mergeSort (keyLe ks) = out.map fun i : Nat => Int.ofNat i := by
  have e := (sorted_ranked ks).uniq R
  rw [← e, List.map_map]
  have pm := List.mergeSort_perm (uptoI ks.length) (keyLe ks)
  refine ((List.map_congr_left fun x hx => ?_).trans (List.map_id _)).symm
  obtain ⟨i, _, rfl⟩ := List.mem_map.mp (pm.mem_iff.mp hx)
  rfl
/-- how two shown numbers lie to each other, the times within less than half the wheel -/
theorem ord_win {n x y : Int} (h1 : 2 * (x - y) < n) (h2 : 2 * (y - x) < n) : ordW n ((y % n - x % n) % n) = (if x = y then ("same" : Str) else if x < y then ("ahead" : Str) else ("behind" : Str)) := by
  unfold ordW
  by_cases e : x = y
  · subst e
    rw [win_sub (by omega) (by omega), if_pos (by omega), if_pos rfl]
  · rw [if_neg e]
    by_cases l : x < y
    · rw [win_sub (by omega) (by omega), if_neg (by omega), if_neg (by omega), if_pos (by omega), if_pos l]
    · rw [win_neg (by omega) (by omega), if_neg (by omega), if_neg (by omega), if_neg (by omega), if_neg l]
theorem isAh_win {n x y : Int} (h1 : 2 * (x - y) < n) (h2 : 2 * (y - x) < n) (h : isAh n (x % n) (y % n) = true) : x < y := by
  have h := of_decide_eq_true h
  obtain ⟨a, b⟩ := h
  rcases Int.lt_trichotomy x y with l | l | l
  · exact l
  · subst l
    rw [win_sub (by omega) (by omega)] at a
    omega
  · rw [win_neg (by omega) (by omega)] at b
    omega
theorem no_ring {n : Int} {ts : List Int} (hw : ∀ x ∈ ts, ∀ y ∈ ts, 2 * (x - y) < n) : firstP (Rg n (ts.map (· % n))) ((ts.map (· % n)).length * (ts.map (· % n)).length * (ts.map (· % n)).length) = none := by
  rw [List.length_map]
  refine firstP_no fun q hq => ?_
  have lp : 0 < ts.length := by
    rcases Nat.eq_zero_or_pos ts.length with z | z
    · rw [z] at hq
      exact absurd hq (by simp)
    · exact z
  have i1 : q / (ts.length * ts.length) < ts.length := Nat.div_lt_of_lt_mul hq
  have j1 : q / ts.length % ts.length < ts.length := Nat.mod_lt _ lp
  have k1 : q % ts.length < ts.length := Nat.mod_lt _ lp
  unfold Rg
  rw [List.length_map, getD_map_mod i1, getD_map_mod j1, getD_map_mod k1]
  have m1 := getD_mem i1
  have m2 := getD_mem j1
  have m3 := getD_mem k1
  generalize ts.getD (q / (ts.length * ts.length)) 0 = x at *
  generalize ts.getD (q / ts.length % ts.length) 0 = y at *
  generalize ts.getD (q % ts.length) 0 = z at *
  refine Bool.eq_false_iff.mpr fun e => ?_
  rw [Bool.and_eq_true, Bool.and_eq_true] at e
  obtain ⟨⟨e1, e2⟩, e3⟩ := e
  have l1 := isAh_win (hw x m1 y m2) (hw y m2 x m1) e1
  have l2 := isAh_win (hw y m2 z m3) (hw z m3 y m2) e2
  have l3 := isAh_win (hw z m3 x m1) (hw x m1 z m3) e3
  omega
theorem tabs_butP {P0 P1 : Addr} {q : Str} {H H' : Hp} (n : P0 ≠ P1) (t : Tabs [(P0, q)] H) (tg : GxR.TabG H P1) (b : ButP P1 H H') : Tabs [(P0, q)] H' := fun p hp => by
  obtain ⟨ps, a1, a2, a3⟩ := t p hp
  obtain rfl : p = (P0, q) := List.mem_singleton.mp hp
  refine ⟨ps, b.2 _ _ n a1, a2, fun pos cv hc => ?_⟩
  obtain ⟨c, e1, e2⟩ := a3 pos cv hc
  exact ⟨c, e1, b.ext tg _ _ e2 codeO_ne⟩
theorem tabG_but {K : PySem.W.Frag} {P1 S : Addr} {H H' : Hp} (t : GxR.TabG H P1) (b : But S H H') (s : StAt K S H) : GxR.TabG H' P1 := by
  obtain ⟨ps, e, t⟩ := t
  exact ⟨ps, b _ _ (s.ne e fun _ z => nomatch z) e, t⟩
theorem tabG_o {P0 P1 : Addr} {H H' : Hp} (n : P0 ≠ P1) (t : GxR.TabG H P1) (o : ∀ b ps, b ≠ P0 → H b = some (.tbl ps) → H' b = some (.tbl ps)) : GxR.TabG H' P1 := by
  obtain ⟨ps, e, t⟩ := t
  exact ⟨ps, o _ _ (fun z => n z.symm) e, t⟩
theorem StAt.butP {K : PySem.W.Frag} {P1 S : Addr} {H H' : Hp} (s : StAt K S H) (tg : GxR.TabG H P1) (b : ButP P1 H H') : StAt K S H' := s.ext (b.ext tg)
/-- what arranged told of times within the span -/
def ToldA (H : Hp) (n sp : Int) (ts : List Int) (v : V) : Prop := (v = .non ∧ n ≤ 2 * sp) ∨ ∃ p, v = .ref p ∧ H p = some (.lst (((uptoI ts.length).mergeSort (keyLe ts)).map V.int))
theorem shaped_str (x : Str) (h : PyData.strOk x = true) : SeqAt.shaped (.str x) = true := by simp [SeqAt.shaped, PyData.canLay0, PyData.depth, h]
theorem eqv_ns (x : Str) : PyData.eqv .none (.str x) = false := by simp [PyData.eqv]
theorem eqv_ls (xs : List PyData) (x : Str) : PyData.eqv (.list xs) (.str x) = false := by simp [PyData.eqv]
end Lx

/-! list(d.values()); a dict told apart from an empty one; the places gathered by their begins -/
namespace Qz
open PySem PySem.Spec PyProof.Rows L2 LamX NdefX Lx
section
variable {X : Cx}
/-- list(e.values()) -/
def tVlst (te : TE) : TE := fun σ H Q => te σ H fun x J => ∃ (d : Addr) (kvs : List (Key × V)), x = .ref d ∧ J d = some (.dK kvs) ∧ ∀ l, J l = none → Q (.ref l) (upd J l (.lst (kvs.map Prod.snd)))
theorem pe_vlst {e : Expr} {te : TE} {p apos cpos pos : Pos} (calm : X.calm = true) (he : PE X e te) (gl : Gl X "list") (ml : X.mg "list" = none) (bl : bootBuiltins "list" = some (.type "list") := by decide +kernel) (ab : attributeBase e "values" X.env (eval e X.env) = eval e X.env := by rfl) (ln : (apos.endLine == cpos.line) = true := by rfl)
    (se : starEach [.Call (.Attribute e "values" apos) [] [] cpos] X.env = (false, eval (.Call (.Attribute e "values" apos) [] [] cpos) X.env) :: starEach [] X.env := by rfl) :
    PE X (.Call (.Name "list" p) [.Call (.Attribute e "values" apos) [] [] cpos] [] pos) (tVlst te) := by
  refine ⟨fun pn t σ H Q Iv h => wpAny_Call_Name_kw (ld_blt Iv gl ml bl (PyProof.Rows.callWith_type1 ?_ se rfl))⟩
  rw [se]
  show wpAny _ _ (spliced ((false, eval (.Call (.Attribute e "values" apos) [] [] cpos) X.env) :: backTo pos (starEach [] X.env))) _ _ t
  refine Calls.spliced_cons (wpAny_Call_method (T := "dict") (id := "dict.values") ab rfl ln F.plainAttrs_dict F.slot_dict_values F.type_dict_values (thn (he.run pn t σ H _ Iv h) ?_))
  rintro u t1 ⟨x, J, I1, rx, d, kvs, rfl, hd, q⟩
  obtain rfl : u = Value.ref d := rx
  obtain ⟨sz, lo, vs, kv, dof⟩ := I1.hok d _ hd
  obtain ⟨ep, dat⟩ := dof.dictAt
  refine ⟨dof.typeIs, dof.mapOf.noDict, ?_⟩
  show wpAny _ _ (callWith cpos (.builtin "dict.values") [.ref d] [] []) _ X.xe t1
  refine method_meetsIn F.slot_dict_values F.entry_dict_values rfl (PySem.evalArgs_none ⟨rfl, dof.typeIs, F.args_dict_values_1 _, _, meets_dict_values (mixKind X.prog X.w) d lo, ⟨vs, dof⟩, Calls.spliced_nil ?_⟩)
  have I2 : Inv X pn σ J { t1 with heap := t1.heap.push { cls := .type "dict_values", data := .fields #[.ref d] } } := I1.kept (t' := t1.toks) fun b ob z => Heap.get?_push_of_some _ z
  have el : kvs.length = vs.length := Paired.length kv
  refine PySem.W.kdl_call (PySem.W.kdl_values (knd := mixKind X.prog X.w) (kvs := vs) (ep := ep)) (I1.ok.hd calm) ⟨⟨_, Heap.get?_push_size _ rfl, rfl, rfl⟩, dat.push _⟩ (el ▸ sz) ?_
  intro h' tk acc c keep atS items
  have rel : Vals (kvs.map Prod.snd) acc.toList := by
    refine vals_of_at ?_ ?_
    · rw [List.length_map, el, ← items.1]
      simp
    · intro j y w e1 e2
      obtain ⟨k, ek⟩ := items.2 j w (by rw [← Array.getElem?_toList]; exact e2)
      obtain ⟨z, g1, g2⟩ := KV.at' kv ek
      rw [List.getElem?_map, g1] at e1
      cases e1
      exact g2
  have fresh := I2.hok.fresh (Nat.le_refl _)
  exact ⟨.ref _, _, I2.laid (t' := tk) keep (Nat.le_refl _) (show ObjOk X.prog X.w _ _ _ (.lst (kvs.map Prod.snd)) from ⟨by rw [List.length_map]; exact sz, acc.toList, c, rel, by rw [Array.toArray_toList]; exact atS⟩), rfl, q _ fresh⟩
/-- a dict unlike an empty one -/
def rNeEmp : R2 := fun x y H Q => ∃ (a b : Addr) (kvs : List (Key × V)), x = .ref a ∧ y = .ref b ∧ H a = some (.dK kvs) ∧ H b = some (.dK []) ∧ Q (.bl (!decide (kvs = []))) H
theorem op_neEmp (hu : X.A.units < cLine) : OpR X (compareOp .NotEq) rNeEmp := by
  rintro pn t σ H x y v u Q I rx ry ⟨a, b, kvs, rfl, rfl, ea, eb, q⟩
  obtain rfl : v = Value.ref a := rx
  obtain rfl : u = Value.ref b := ry
  obtain ⟨_, na, va, ra, da⟩ := I.hok a _ ea
  obtain ⟨_, nb, vb, rb, db⟩ := I.hok b _ eb
  have lb : vb = [] := by
    have e := Paired.length rb
    exact List.length_eq_zero_iff.mp e.symm
  subst lb
  have la : kvs.length = va.length := Paired.length ra
  refine PySem.W.keq_ne (knd := mixKind X.prog X.w) (r := true) na nb da db hu (fun e => ?_) (fin_bl I q ?_)
  · obtain rfl : va = [] := List.length_eq_zero_iff.mp e
    exact .nil
  · cases kvs with
    | nil =>
      obtain rfl : va = [] := List.length_eq_zero_iff.mp la.symm
      rfl
    | cons z r =>
      cases va with
      | nil => simp at la
      | cons z2 r2 => simp
end
end Qz
namespace Lx
open PySem PySem.Spec PyProof.Rows L2 LamX NdefX Qz
/-- the places as they come from b on, told by a list at v -/
def PlaceAt (H : Hp) (n : Int) (ns : List Int) (b : Int) (v : V) : Prop := ∃ (p : Addr) (out : List Nat), v = .ref p ∧ H p = some (.lst (out.map fun i => V.int (i : Nat))) ∧ Ranked (farW n b ns) ns.length out
theorem PlaceAt.ext {H H' : Hp} {n b : Int} {ns : List Int} {v : V} (h : PlaceAt H n ns b v) (x : ExtN H H') : PlaceAt H' n ns b v := by
  obtain ⟨p, out, e, ep, r⟩ := h
  exact ⟨p, out, e, x _ _ ep (fun _ z => nomatch z), r⟩
/-- what is gathered of the first j -/
structure Gath (H : Hp) (n sp : Int) (ns : List Int) (j : Nat) (kvs : List (Key × V)) : Prop where
  nd : (kvs.map Prod.fst).Nodup
  is : ∀ kv ∈ kvs, ∃ b, kv.1 = Sum.inl b ∧ b ∈ ns.take j ∧ inSpan n sp b ns = true ∧ PlaceAt H n ns b kv.2
  all : ∀ b ∈ ns.take j, inSpan n sp b ns = true → (Sum.inl b : Key) ∈ kvs.map Prod.fst
theorem putK_fst {kvs : List (Key × V)} {k : Key} {v : V} : (k ∈ kvs.map Prod.fst ∧ (putK kvs k v).map Prod.fst = kvs.map Prod.fst) ∨ (¬ k ∈ kvs.map Prod.fst ∧ (putK kvs k v).map Prod.fst = kvs.map Prod.fst ++ [k]) := by
  unfold putK
  by_cases h : (kvs.any fun kv => decide (kv.1 = k)) = true
  · rw [if_pos h]
    have hk : k ∈ kvs.map Prod.fst := by
      obtain ⟨kv, m, e⟩ := List.any_eq_true.mp h
      exact List.mem_map.mpr ⟨kv, m, of_decide_eq_true e⟩
    refine .inl ⟨hk, ?_⟩
    rw [List.map_map]
    refine List.map_congr_left fun kv _ => ?_
    show (if kv.1 = k then (kv.1, v) else kv).1 = kv.1
    split <;> rfl
  · rw [if_neg h]
    have hk : ¬ k ∈ kvs.map Prod.fst := fun z => by
      obtain ⟨kv, m, e⟩ := List.mem_map.mp z
      exact h (List.any_eq_true.mpr ⟨kv, m, decide_eq_true e⟩)
    refine .inr ⟨hk, ?_⟩
    rw [List.map_append]
    rfl
theorem putK_mem {kvs : List (Key × V)} {k : Key} {v : V} {kv : Key × V} (h : kv ∈ putK kvs k v) : kv = (k, v) ∨ kv ∈ kvs := by
  unfold putK at h
  split at h
  · obtain ⟨q, m, e⟩ := List.mem_map.mp h
    split at e
    · rename_i ek
      rw [← e, ek]
      exact .inl rfl
    · rw [← e]
      exact .inr m
  · rcases List.mem_append.mp h with m | m
    · exact .inr m
    · exact .inl (List.mem_singleton.mp m)
section
variable {H H' : Hp} {n sp : Int} {ns : List Int} {j : Nat} {kvs : List (Key × V)}
theorem Gath.none_ : Gath H n sp ns 0 [] := ⟨List.nodup_nil, fun _ z => (nomatch z), fun b (z : b ∈ ns.take 0) => by rw [List.take_zero] at z; cases z⟩
theorem Gath.ext (g : Gath H n sp ns j kvs) (x : ExtN H H') : Gath H' n sp ns j kvs := ⟨g.nd, fun kv m => by
  obtain ⟨b, e1, e2, e3, e4⟩ := g.is kv m
  exact ⟨b, e1, e2, e3, e4.ext x⟩, g.all⟩
theorem mem_take_next {b x : Int} (hb : ns[j]? = some b) (h : x ∈ ns.take (j + 1)) : x ∈ ns.take j ∨ x = b := by
  rw [List.take_add_one, hb] at h
  rcases List.mem_append.mp h with m | m
  · exact .inl m
  · exact .inr (by simpa using m)
theorem take_next {b : Int} (hb : ns[j]? = some b) : b ∈ ns.take (j + 1) := by
  rw [List.take_add_one, hb]
  exact List.mem_append.mpr (.inr (by simp))
theorem take_more {x : Int} (h : x ∈ ns.take j) : x ∈ ns.take (j + 1) := by
  rw [List.take_add_one]
  exact List.mem_append.mpr (.inl h)
theorem Gath.skip (g : Gath H n sp ns j kvs) {b : Int} (hb : ns[j]? = some b) (no : inSpan n sp b ns = false) : Gath H n sp ns (j + 1) kvs := by
  refine ⟨g.nd, fun kv m => ?_, fun x m i => ?_⟩
  · obtain ⟨b', e1, e2, e3, e4⟩ := g.is kv m
    exact ⟨b', e1, take_more e2, e3, e4⟩
  · rcases mem_take_next hb m with m | rfl
    · exact g.all x m i
    · rw [no] at i
      cases i
theorem Gath.put (g : Gath H n sp ns j kvs) {b : Int} {v : V} (hb : ns[j]? = some b) (yes : inSpan n sp b ns = true) (at_ : PlaceAt H n ns b v) : Gath H n sp ns (j + 1) (putK kvs (Sum.inl b : Key) v) := by
  have keys := putK_fst (kvs := kvs) (k := (Sum.inl b : Key)) (v := v)
  refine ⟨?_, fun kv m => ?_, fun x m i => ?_⟩
  · rcases keys with ⟨_, e⟩ | ⟨no, e⟩
    · rw [e]
      exact g.nd
    · rw [e]
      refine List.nodup_append.mpr ⟨g.nd, by simp, fun a ma c mc z => ?_⟩
      rw [List.mem_singleton.mp mc] at z
      rw [z] at ma
      exact no ma
  · rcases putK_mem m with rfl | m
    · exact ⟨b, rfl, take_next hb, yes, at_⟩
    · obtain ⟨b', e1, e2, e3, e4⟩ := g.is kv m
      exact ⟨b', e1, take_more e2, e3, e4⟩
  · rcases mem_take_next hb m with m | rfl
    · have o := g.all x m i
      rcases keys with ⟨_, e⟩ | ⟨_, e⟩
      · rw [e]
        exact o
      · rw [e]
        exact List.mem_append.mpr (.inl o)
    · rcases keys with ⟨o, e⟩ | ⟨_, e⟩
      · rw [e]
        exact o
      · rw [e]
        exact List.mem_append.mpr (.inr List.mem_cons_self)
/-- gathered of all: the begins, each once -/
theorem Gath.perm (g : Gath H n sp ns ns.length kvs) {bs : List Int} (B : Begins n sp ns bs) : (kvs.map Prod.fst).Perm (bs.map fun b => (Sum.inl b : Key)) := by
  have inc : bs.Nodup := B.inc.imp fun {a b} (h : a < b) => fun e => by omega
  refine (List.perm_ext_iff_of_nodup g.nd (List.Pairwise.map _ (fun a b (h : a ≠ b) e => h (Sum.inl.inj e)) inc)).mpr fun k => ⟨fun m => ?_, fun m => ?_⟩
  · obtain ⟨kv, m2, rfl⟩ := List.mem_map.mp m
    obtain ⟨b, e1, e2, e3, _⟩ := g.is kv m2
    rw [e1]
    exact List.mem_map.mpr ⟨b, (B.mem b).mpr ⟨List.mem_of_mem_take e2, e3⟩, rfl⟩
  · obtain ⟨b, m2, rfl⟩ := List.mem_map.mp m
    obtain ⟨e2, e3⟩ := (B.mem b).mp m2
    exact g.all b (by rw [List.take_length]; exact e2) e3
theorem Gath.len (g : Gath H n sp ns ns.length kvs) {bs : List Int} (B : Begins n sp ns bs) : kvs.length = bs.length := by
  have := (g.perm B).length_eq
  rwa [List.length_map, List.length_map] at this
theorem Gath.one (g : Gath H n sp ns ns.length kvs) {b : Int} (B : Begins n sp ns [b]) : ∃ v, kvs = [(Sum.inl b, v)] ∧ PlaceAt H n ns b v := by
  have l := g.len B
  match kvs, g, l with
  | [(k, v)], g, _ =>
    obtain ⟨c, e1, e2, e3, e4⟩ := g.is (k, v) List.mem_cons_self
    have m : c ∈ [b] := (B.mem c).mpr ⟨List.mem_of_mem_take e2, e3⟩
    obtain rfl := List.mem_singleton.mp m
    obtain rfl : k = Sum.inl c := e1
    exact ⟨v, rfl, e4⟩
  | [], _, l => exact absurd l (by simp)
  | _ :: _ :: _, _, l => exact absurd l (by simp)
theorem extN_dk {H : Hp} {d : Addr} {l : List (Key × V)} {o : HO} (e : H d = some (.dK l)) : ∀ {n : Int} {ns : List Int} {b : Int} {v : V}, PlaceAt H n ns b v → PlaceAt (upd H d o) n ns b v := fun h => by
  obtain ⟨p, out, ev, ep, r⟩ := h
  exact ⟨p, out, ev, by rw [upd_ne (fun z => by rw [z, e] at ep; cases ep)]; exact ep, r⟩
theorem Gath.dk (g : Gath H n sp ns j kvs) {d : Addr} {l : List (Key × V)} {o : HO} (e : H d = some (.dK l)) : Gath (upd H d o) n sp ns j kvs := ⟨g.nd, fun kv m => by
  obtain ⟨b, e1, e2, e3, e4⟩ := g.is kv m
  exact ⟨b, e1, e2, e3, extN_dk e e4⟩, g.all⟩
theorem tabs_dk {T : List (Addr × Str)} {d : Addr} {l : List (Key × V)} {o : HO} (t : Tabs T H) (e : H d = some (.dK l)) : Tabs T (upd H d o) := fun p hp => by
  obtain ⟨ps, h1, h2, h3⟩ := t p hp
  refine ⟨ps, by rw [upd_ne (fun z => by rw [z, e] at h1; cases h1)]; exact h1, h2, fun pos cv hc => ?_⟩
  obtain ⟨c, e1, e2⟩ := h3 pos cv hc
  exact ⟨c, e1, by rw [upd_ne (fun z => by rw [z, e] at e2; unfold CodeO at e2; cases e2)]; exact e2⟩
/-- what _law_due tells; P2: its own table, which may grow -/
def spDue (K : PySem.W.Frag) (P2 : Addr) (T : List (Addr × Str)) : Sp := fun vs H Q _ => ∃ (n sp : Int) (a : Addr) (ns bs : List Int), vs = [.int n, .int sp, .ref a] ∧ SqL K H a (ns.map V.int) ∧ Wh n ∧ (∀ x ∈ ns, Sn n x) ∧ ns.length ≤ 60 ∧ (ns ≠ [] → Begins n sp ns bs) ∧ Tabs T H ∧
  ∀ H', ExtN H H' → Tabs T H' → (∀ b ps, b ≠ P2 → H b = some (.tbl ps) → H' b = some (.tbl ps)) →
    (ns = [] → ∀ p, H' p = some (.lst []) → Q (.ref p) H') ∧
    (ns ≠ [] → (bs = [] → Q (.str "NoSpan") H') ∧ (1 < bs.length → Q .non H') ∧ (∀ b, bs = [b] → ∀ v, PlaceAt H' n ns b v → Q v H'))
end
end Lx

namespace K8
open PySem PySem.Spec PyProof.Rows L2 LamX NdefX Lx
def topS (i : Nat) : Stmt := PySem.Challenge.pw_wraptime_k08_orders_within_a_span.main.body.getD i (.Pass ⟨0, 0, 0, 0⟩)
/-- the built-in names that the law's helpers use are still the built-in ones -/
structure Bl (mg : Str → Option Value) : Prop where
  isi : mg "isinstance" = none
  tup : mg "tuple" = none
  lst : mg "list" = none
  len : mg "len" = none
  rng : mg "range" = none
  str : mg "str" = none
  bool : mg "bool" = none
  int : mg "int" = none

abbrev sStart : Stmt := topS 26
theorem scStart : FnScope ["_law_script", "_law_mixed", "_law_cell"] ["_law_script"] (defScope sStart) := ⟨rfl, rfl, rfl, by decide +kernel, rfl, by decide +kernel, by decide +kernel⟩
section
variable {P : Program} {w : World} {K : PySem.W.Frag} {mg : Str → Option Value} {base : Heap}
theorem ok_start {f : Addr} {fd : FuncData} {k : Nat} (F : Fun K "_law_start" "_law_start" sStart f fd) : FnOk P w K mg base CX0 (k + 1) f fd ["_law_script"] (spStart K) := by
  refine F.ok scStart (fun vs H Q E h => ?_) (fun cdv A outer s H vs Q E hr h => ?_)
  · obtain ⟨a, ns, rfl, _⟩ := h
    rfl
  · obtain ⟨a, ns, rfl, hS, q⟩ := h
    refine ⟨_, pss_cons (ps_set (i := 1) scStart.nd rfl (.inl rfl) pe_int)
      (pss_cons (ps_for PassesOwn.never rfl (pi_list (pv 0)) (pg_name (i := 2) scStart.nd rfl (.inl rfl))
        (pss_one (ps_set (i := 1) scStart.nd rfl (.inl rfl) (pe_op op_mod (pe_op op_add (pe_op op_add (pe_op op_mul (pv 1) pe_int) (pv 2)) pe_int) pe_int))))
      (pss_one (ps_ret (pe_lst (pa_cons (pv 0) (pa_cons pe_int (pa_cons (pv 1) (pa_cons pe_int pa_nil)))))))), ?_⟩
    refine ⟨.ref a, rfl, a, rfl, ⟨_, hS⟩, for_list (K := K) (a := a) (xs := ns.map V.int)
      (fun i σ H' => H' = H ∧ ∃ (m : Int) (y : Option V), σ = [some (.ref a), some (.int m), y] ∧ 0 ≤ m ∧ m < 2147483647)
      ⟨rfl, 1, none, rfl, by decide, by decide⟩ (fun i σ H' _ h => by rw [h.1]; exact hS) ?_ ?_⟩
    · rintro i y σ H' hi ⟨rfl, m, o, rfl, h1, h2⟩
      rw [List.getElem?_map] at hi
      cases e : ns[i]? with
      | none => rw [e] at hi; cases hi
      | some z =>
        rw [e] at hi
        have ey : y = V.int z := (Option.some.inj hi).symm
        subst ey
        refine ⟨.int m, rfl, m, 48271, rfl, rfl, .inl ⟨by omega, by omega⟩, .int z, rfl, _, _, rfl, rfl, _, _, rfl, rfl, _, _, rfl, rfl, by show (0 : Int) < 2147483647; decide, ?_⟩
        refine ⟨rfl, _, some (.int z), rfl, ?_, ?_⟩
        · exact Int.emod_nonneg _ (by decide)
        · exact Int.emod_lt_of_pos _ (by decide)
    · rintro σ H' ⟨rfl, m, o, rfl, h1, h2⟩
      refine ⟨.ref a, rfl, .int m, rfl, by show 4 ≤ sizeLine; decide, fun p hp => ?_⟩
      refine q p _ (fun b u e => by rw [upd_ne (ne_of_none e hp)]; exact e) hp ?_
      refine ⟨a, ns, 0, m, 0, upd_same, ?_, by omega, h1, h2, by omega⟩
      exact Same.seq (fun b u e => by rw [upd_ne (ne_of_none e hp)]; exact e) hS
end

abbrev sDrawn : Stmt := topS 27
theorem scDrawn : FnScope ["_law_state", "_law_many", "_law_found", "_law_cell"] ["_law_state", "_law_many"] (defScope sDrawn) := ⟨rfl, rfl, rfl, by decide +kernel, rfl, by decide +kernel, by decide +kernel⟩
section
variable {P : Program} {w : World} {K : PySem.W.Frag} {mg : Str → Option Value} {base : Heap}
theorem ok_drawn {f : Addr} {fd : FuncData} {k : Nat} (F : Fun K "_law_drawn" "_law_drawn" sDrawn f fd) (ml : mg "len" = none) : FnOk P w K mg base CX0 (k + 1) f fd ["_law_state", "_law_many"] (spDrawn K) := by
  refine F.ok scDrawn (fun vs H Q E h => ?_) (fun cdv A outer s H vs Q E hr h => ?_)
  · obtain ⟨S, many, rfl, _⟩ := h
    rfl
  · obtain ⟨S, many, rfl, ⟨a, ns, i, m, r, hS, hA, i0, m0, m1, r0⟩, n0, n1, q⟩ := h
    have nd := scDrawn.nd
    refine ⟨_, pss_cons (ps_if (pt_cmpR op_gt (pe_ix ix_list (pv 0) pe_int (fun _ _ => rfl)) pe_int (nomark _))
        (pss_cons (ps_set (i := 2) nd rfl (.inl rfl) (pe_op op_mod (pe_ix ix_list (pv 0) pe_int (fun _ _ => rfl)) (pv 1)))
        (pss_cons (ps_asg (pe_op op_fdivW (pe_ix ix_list (pv 0) pe_int (fun _ _ => rfl)) (pv 1)) (pg_sub (pv 0) pe_int set_list))
        (pss_one (ps_ret (pv 2))))) pss_nil)
      (pss_cons (ps_asg (pe_op op_add (pe_ix ix_list (pv 0) pe_int (fun _ _ => rfl)) pe_int) (pg_sub (pv 0) pe_int set_list))
      (pss_cons (ps_if (pt_cmpR op_le (pe_ix ix_list (pv 0) pe_int (fun _ _ => rfl)) (pe_callB call_len_seq (by rfl) ml PySem.boot_len (pa_cons (pe_ix ix_list (pv 0) pe_int (fun _ _ => rfl)) pa_nil)) (nomark _))
        (pss_cons (ps_set (i := 3) nd rfl (.inl rfl) (pe_ix ix_list (pe_ix ix_list (pv 0) pe_int (fun _ _ => rfl)) (pe_op op_sub (pe_ix ix_list (pv 0) pe_int (fun _ _ => rfl)) pe_int) (fun _ _ => rfl)))
        (pss_cons (ps_asg (pe_ifExp (pt_cmpR op_ge (pv 3) (pe_op op_pow pe_int pe_int) (nomark _)) (pe_op op_fdivW (pv 3) (pv 1)) pe_int) (pg_sub (pv 0) pe_int set_list))
        (pss_one (ps_ret (pe_op op_mod (pv 3) (pv 1)))))) pss_nil)
      (pss_cons (ps_asg (pe_op op_mod (pe_op op_add (pe_op op_mul (pe_ix ix_list (pv 0) pe_int (fun _ _ => rfl)) pe_int) pe_int) pe_int) (pg_sub (pv 0) pe_int set_list))
      (pss_one (ps_ret (pe_op op_mod (pe_op op_fdiv (pe_ix ix_list (pv 0) pe_int (fun _ _ => rfl)) pe_int) (pv 1))))))), ?_⟩
    have L0 : SqL K H S [.ref a, .int i, .int m, .int r] := SqL.of hS
    -- if state[3] > 0
    refine ⟨.ref S, rfl, S, _, 3, .int r, rfl, rfl, L0, rfl, _, _, rfl, rfl, _, rfl, ite2 (fun e => ?_) (fun e => ?_)⟩
    · have rp : 0 < r := of_decide_eq_true e
      refine ⟨.ref S, rfl, S, _, 3, .int r, rfl, rfl, L0, rfl, .int many, rfl, _, _, rfl, rfl, n0, ?_⟩
      refine ⟨.ref S, rfl, S, _, 3, .int r, rfl, rfl, L0, rfl, .int many, rfl, _, _, rfl, rfl, wide40 n0 n1, .ref S, rfl, S, _, 3, 3, rfl, rfl, hS, rfl, ?_⟩
      refine ⟨_, rfl, q _ _ (Int.emod_nonneg _ (by omega)) (Int.emod_lt_of_pos _ n0) (.self hS) ?_⟩
      exact StAt.put hS hA i0 m0 m1 (Int.ediv_nonneg r0 (by omega))
    · -- state[1] = state[1] + 1
      refine ⟨.ref S, rfl, S, _, 1, .int i, rfl, rfl, L0, rfl, _, _, rfl, rfl, .ref S, rfl, S, _, 1, 1, rfl, rfl, hS, rfl, ?_⟩
      generalize hH1 : upd H S (.lst (([V.ref a, V.int i, V.int m, V.int r]).set 1 (V.int (i + 1)))) = H1
      have b1 : But S H H1 := by rw [← hH1]; exact .self hS
      have hS1 : H1 S = some (.lst [.ref a, .int (i + 1), .int m, .int r]) := by rw [← hH1]; exact upd_same
      have hA1 : SqL K H1 a (ns.map V.int) := sqL_but b1 hA fun z => st_ne (K := K) hS z
      have L1 : SqL K H1 S [.ref a, .int (i + 1), .int m, .int r] := SqL.of hS1
      -- if state[1] <= len(state[0])
      refine ⟨.ref S, rfl, S, _, 1, .int (i + 1), rfl, rfl, L1, rfl, .ref S, rfl, S, _, 0, .ref a, rfl, rfl, L1, rfl, a, _, rfl, .inl hA1, _, _, rfl, rfl, _, rfl, ite2 (fun e => ?_) (fun e => ?_)⟩
      · have le : i + 1 ≤ ((ns.map V.int).length : Int) := of_decide_eq_true e
        rw [List.length_map] at le
        obtain ⟨j, rfl⟩ : ∃ j : Nat, i = j := ⟨i.toNat, by omega⟩
        have lt : j < ns.length := by omega
        have at_ : atI (ns.map V.int) ((j : Int) + 1 - 1) = some (.int ns[j]) := by
          rw [show (j : Int) + 1 - 1 = j by omega]
          exact atI_nat (by rw [List.getElem?_map, List.getElem?_eq_getElem lt]; rfl)
        refine ⟨.ref S, rfl, S, _, 0, .ref a, rfl, rfl, L1, rfl, .ref S, rfl, S, _, 1, .int ((j : Int) + 1), rfl, rfl, L1, rfl, _, _, rfl, rfl, a, _, _, .int ns[j], rfl, rfl, hA1, at_, ?_⟩
        -- state[3] = cell // many if cell >= 10 ** 18 else 0
        have fin : ∀ r' : Int, 0 ≤ r' → ∀ v : Int, 0 ≤ v → v < many → Q (.int v) (upd H1 S (.lst [.ref a, .int ((j : Int) + 1), .int m, .int r'])) := by
          intro r' h0 v h1 h2
          exact q v _ h1 h2 (b1.trans (.self hS1)) (StAt.put hS1 hA1 (by omega) m0 m1 h0)
        refine ⟨.int ns[j], rfl, 10, 18, rfl, rfl, ⟨by decide, by decide, by decide⟩, _, _, rfl, rfl, _, rfl, ite2 (fun e2 => ?_) (fun e2 => ?_)⟩
        · have ge : (10 : Int) ^ (18 : Int).toNat ≤ ns[j] := of_decide_eq_true e2
          have ge2 : (0 : Int) ≤ ns[j] := Int.le_trans (by decide) ge
          refine ⟨.int ns[j], rfl, .int many, rfl, _, _, rfl, rfl, wide40 n0 n1, .ref S, rfl, S, _, 3, 3, rfl, rfl, hS1, rfl, ?_⟩
          refine ⟨.int ns[j], rfl, .int many, rfl, _, _, rfl, rfl, n0, ?_⟩
          exact fin _ (Int.ediv_nonneg ge2 (by omega)) _ (Int.emod_nonneg _ (by omega)) (Int.emod_lt_of_pos _ n0)
        · refine ⟨.ref S, rfl, S, _, 3, 3, rfl, rfl, hS1, rfl, ?_⟩
          refine ⟨.int ns[j], rfl, .int many, rfl, _, _, rfl, rfl, n0, ?_⟩
          exact fin _ (Int.le_refl 0) _ (Int.emod_nonneg _ (by omega)) (Int.emod_lt_of_pos _ n0)
      · -- state[2] = ..
        refine ⟨.ref S, rfl, S, _, 2, .int m, rfl, rfl, L1, rfl, _, _, rfl, rfl, .inl ⟨by omega, by omega⟩, _, _, rfl, rfl, _, _, rfl, rfl, by show (0 : Int) < 2147483647; decide, .ref S, rfl, S, _, 2, 2, rfl, rfl, hS1, rfl, ?_⟩
        have hS2 : ∀ z : Int, upd H1 S (.lst (([V.ref a, V.int (i + 1), V.int m, V.int r]).set 2 (V.int z))) S = some (.lst [.ref a, .int (i + 1), .int z, .int r]) := fun _ => upd_same
        refine ⟨.ref S, rfl, S, _, 2, .int ((m * 48271 + 11) % 2147483647), rfl, rfl, SqL.of (hS2 _), rfl, _, _, rfl, rfl, ⟨by decide, by decide⟩, .int many, rfl, _, _, rfl, rfl, n0, ?_⟩
        refine q _ _ (Int.emod_nonneg _ (by omega)) (Int.emod_lt_of_pos _ n0) (b1.trans (.self hS1)) ?_
        exact StAt.put hS1 hA1 (by omega) (Int.emod_nonneg _ (by decide)) (Int.emod_lt_of_pos _ (by decide)) r0
end

abbrev sWheel : Stmt := topS 31
theorem scWheel : FnScope ["_law_state", "_law_wide"] ["_law_state"] (defScope sWheel) := ⟨rfl, rfl, rfl, by decide +kernel, rfl, by decide +kernel, by decide +kernel⟩
section
variable {P : Program} {w : World} {K : PySem.W.Frag} {mg : Str → Option Value} {base : Heap}
theorem ok_wheel {f : Addr} {fd : FuncData} {k j : Nat} (F : Fun K "_law_wheel" "_law_wheel" sWheel f fd) (D : Kn P w K mg base CX0 j "_law_drawn" ["_law_state", "_law_many"] (spDrawn K)) (hj : j ≤ k) :
    FnOk P w K mg base CX0 (k + 1) f fd ["_law_state"] (spWheel K) := by
  refine F.ok scWheel (fun vs H Q E h => ?_) (fun cdv A outer s H vs Q E hr h => ?_)
  · obtain ⟨S, rfl, _⟩ := h
    rfl
  · obtain ⟨S, rfl, st, q⟩ := h
    refine ⟨_, pss_cons (ps_set (i := 1) scWheel.nd rfl (.inl rfl) (pe_ix ix_list (pe_lst (pa_cons pe_int (pa_cons pe_int (pa_cons (pe_op op_sub (pe_op op_pow pe_int pe_int) pe_int) pa_nil)))) (pe_kn D hr hj (pa_cons (pv 0) (pa_cons pe_int pa_nil)) rfl) (fun _ _ => rfl)))
      (pss_cons (ps_if (pt_cmpR op_eq (pe_kn D hr hj (pa_cons (pv 0) (pa_cons pe_int pa_nil)) rfl) pe_int (nomark _))
        (pss_one (ps_ret (pe_ix ix_list (pe_lst (pa_cons pe_int (pa_cons pe_int (pa_cons pe_int (pa_cons pe_int (pa_cons pe_int (pa_cons (pe_op op_pow pe_int pe_int) (pa_cons (pe_op op_pow pe_int pe_int) (pa_cons (pe_op op_pow pe_int pe_int) pa_nil)))))))))
          (pe_kn D hr hj (pa_cons (pv 0) (pa_cons pe_int pa_nil)) rfl) (fun _ _ => rfl)))) pss_nil)
      (pss_one (ps_ret (pe_op op_add pe_int (pe_kn D hr hj (pa_cons (pv 0) (pa_cons (pv 1) pa_nil)) rfl))))), ?_⟩
    refine ⟨_, _, rfl, rfl, ⟨by decide, by decide, by decide⟩, _, _, rfl, rfl, by show 3 ≤ sizeLine; decide, fun p hp => ?_⟩
    refine ⟨.ref S, rfl, S, 3, rfl, st.new hp, by decide, by decide, fun v H1 v0 v1 bt st1 => ?_⟩
    obtain ⟨x, ex, hx⟩ := pick3 (a := V.int 6) (b := V.int 60) (c := V.int ((10 : Int) ^ (12 : Int).toNat - 1)) v0 v1
    obtain ⟨z, rfl, z0, z1⟩ : ∃ z : Int, x = .int z ∧ 0 < z ∧ z ≤ 999999999999 := by
      rcases hx with rfl | rfl | rfl
      · exact ⟨_, rfl, by decide, by decide⟩
      · exact ⟨_, rfl, by decide, by decide⟩
      · exact ⟨_, rfl, by decide, by decide⟩
    refine ⟨p, _, v, _, rfl, rfl, SqL.of (bt _ _ (st.nn hp) upd_same), ex, ?_⟩
    have b1 : But S H H1 := (But.new hp).trans bt
    refine ⟨.ref S, rfl, S, 4, rfl, st1, by decide, by decide, fun d H2 _ _ bt2 st2 => ?_⟩
    refine ⟨rfl, _, rfl, ite2 (fun _ => ?_) (fun _ => ?_)⟩
    · refine ⟨_, _, rfl, rfl, ⟨by decide, by decide, by decide⟩, _, _, rfl, rfl, ⟨by decide, by decide, by decide⟩, _, _, rfl, rfl, ⟨by decide, by decide, by decide⟩, by show 8 ≤ sizeLine; decide, fun p2 hp2 => ?_⟩
      refine ⟨.ref S, rfl, S, 8, rfl, st2.new hp2, by decide, by decide, fun v2 H3 v20 v21 bt3 st3 => ?_⟩
      obtain ⟨y, ey, hy⟩ := pick (xs := [V.int 2, V.int 4, V.int 8, V.int 64, V.int 256, V.int ((2 : Int) ^ (16 : Int).toNat), V.int ((2 : Int) ^ (32 : Int).toNat), V.int ((2 : Int) ^ (39 : Int).toNat)]) v20 (by simpa using v21)
      obtain ⟨n, rfl, hn⟩ : ∃ n : Int, y = .int n ∧ Wh n := by
        simp only [List.mem_cons, List.not_mem_nil, or_false] at hy
        rcases hy with rfl | rfl | rfl | rfl | rfl | rfl | rfl | rfl <;> exact ⟨_, rfl, by decide, by decide⟩
      exact ⟨p2, _, v2, _, rfl, rfl, SqL.of (bt3 _ _ (st2.nn hp2) upd_same), ey, q _ _ hn ((b1.trans bt2).trans ((But.new hp2).trans bt3)) st3⟩
    · refine ⟨.ref S, rfl, .int z, rfl, S, z, rfl, st2, z0, by omega, fun d2 H3 d20 d21 bt3 st3 => ?_⟩
      exact ⟨_, _, rfl, rfl, q _ _ ⟨by omega, by omega⟩ ((b1.trans bt2).trans bt3) st3⟩
end

abbrev sTime : Stmt := topS 33
theorem scTime : FnScope ["_law_state", "_law_far_here"] ["_law_state"] (defScope sTime) := ⟨rfl, rfl, rfl, by decide +kernel, rfl, by decide +kernel, by decide +kernel⟩
section
variable {P : Program} {w : World} {K : PySem.W.Frag} {mg : Str → Option Value} {base : Heap}
theorem ok_time {f : Addr} {fd : FuncData} {k j : Nat} (F : Fun K "_law_time" "_law_time" sTime f fd) (D : Kn P w K mg base CX0 j "_law_drawn" ["_law_state", "_law_many"] (spDrawn K)) (hj : j ≤ k) :
    FnOk P w K mg base CX0 (k + 1) f fd ["_law_state"] (spTime K) := by
  refine F.ok scTime (fun vs H Q E h => ?_) (fun cdv A outer s H vs Q E hr h => ?_)
  · obtain ⟨S, rfl, _⟩ := h
    rfl
  · obtain ⟨S, rfl, st, q⟩ := h
    refine ⟨_, pss_cons (ps_set (i := 1) scTime.nd rfl (.inl rfl) (pe_ix ix_list (pe_lst (pa_cons pe_int (pa_cons (pe_op op_pow pe_int pe_int) (pa_cons (pe_op op_pow pe_int pe_int) pa_nil)))) (pe_kn D hr hj (pa_cons (pv 0) (pa_cons pe_int pa_nil)) rfl) (fun _ _ => rfl)))
      (pss_one (ps_ret (pe_op op_sub (pe_kn D hr hj (pa_cons (pv 0) (pa_cons (pv 1) pa_nil)) rfl) (pe_op op_mul (pe_kn D hr hj (pa_cons (pv 0) (pa_cons pe_int pa_nil)) rfl) (pv 1))))), ?_⟩
    refine ⟨_, _, rfl, rfl, ⟨by decide, by decide, by decide⟩, _, _, rfl, rfl, ⟨by decide, by decide, by decide⟩, by show 3 ≤ sizeLine; decide, fun p hp => ?_⟩
    refine ⟨.ref S, rfl, S, 3, rfl, st.new hp, by decide, by decide, fun v H1 v0 v1 bt st1 => ?_⟩
    obtain ⟨x, ex, hx⟩ := pick3 (a := V.int 100) (b := V.int ((10 : Int) ^ (6 : Int).toNat)) (c := V.int ((10 : Int) ^ (30 : Int).toNat)) v0 v1
    obtain ⟨z, rfl, z0, z1⟩ : ∃ z : Int, x = .int z ∧ 0 < z ∧ z ≤ 1000000000000000000000000000000 := by
      rcases hx with rfl | rfl | rfl
      · exact ⟨_, rfl, by decide, by decide⟩
      · exact ⟨_, rfl, by decide, by decide⟩
      · exact ⟨_, rfl, by decide, by decide⟩
    refine ⟨p, _, v, _, rfl, rfl, SqL.of (bt _ _ (st.nn hp) upd_same), ex, ?_⟩
    have b1 : But S H H1 := (But.new hp).trans bt
    refine ⟨.ref S, rfl, .int z, rfl, S, z, rfl, st1, z0, by omega, fun d1 H2 d10 d11 bt2 st2 => ?_⟩
    refine ⟨.ref S, rfl, S, 2, rfl, st2, by decide, by decide, fun d2 H3 d20 d21 bt3 st3 => ?_⟩
    refine ⟨.int z, rfl, d2, z, rfl, rfl, .inl ⟨by omega, by omega⟩, _, _, rfl, rfl, ?_⟩
    refine q _ _ ?_ ((b1.trans bt2).trans bt3) st3
    have : d2 = 0 ∨ d2 = 1 := by omega
    rcases this with rfl | rfl
    · exact ⟨by omega, by omega⟩
    · exact ⟨by omega, by omega⟩
end

abbrev sIsWheel : Stmt := topS 13
theorem scIsWheel : FnScope ["number"] ["number"] (defScope sIsWheel) := ⟨rfl, rfl, rfl, by decide +kernel, rfl, by decide +kernel, by decide +kernel⟩
section
variable {P : Program} {w : World} {K : PySem.W.Frag} {mg : Str → Option Value} {base : Heap}
theorem ok_isWheel {f : Addr} {fd : FuncData} {k : Nat} {t1 t2 : Tok} (F : Fun K "is_wheel" "is_wheel" sIsWheel f fd) (g1 : mg "LEAST_WHEEL" = some (.int 2 t1)) (g2 : mg "MOST_WHEEL" = some (.int 1000000000000 t2)) :
    FnOk P w K mg base CX0 (k + 1) f fd ["number"] spIsWheel := by
  refine F.ok scIsWheel (fun vs H Q E h => ?_) (fun cdv A outer s H vs Q E hr h => ?_)
  · obtain ⟨n, rfl, _⟩ := h
    rfl
  · obtain ⟨n, rfl, q⟩ := h
    refine ⟨_, pss_one (ps_ret (pe_chain op_le op_le (pe_glob (v := .int 2) rfl g1 ⟨_, rfl⟩) (pv 0) (pe_glob (v := .int 1000000000000) rfl g2 ⟨_, rfl⟩))), ?_⟩
    refine ⟨_, rfl, _, _, rfl, rfl, _, rfl, ite2 (fun e => ?_) (fun e => ?_)⟩
    · have h1 : 2 ≤ n := of_decide_eq_true e
      refine ⟨_, _, rfl, rfl, ?_⟩
      rw [show decide (Wh n) = decide (n ≤ 1000000000000) from decide_eq_decide.mpr ⟨fun z => z.2, fun z => ⟨h1, z⟩⟩] at q
      exact q
    · have h1 : ¬ 2 ≤ n := fun z => e (decide_eq_true z)
      rw [show decide (Wh n) = false from decide_eq_false fun z => h1 z.1] at q
      exact q
end

abbrev sCheckWheel : Stmt := topS 14
theorem scCheckWheel : FnScope ["wheel"] ["wheel"] (defScope sCheckWheel) := ⟨rfl, rfl, rfl, by decide +kernel, rfl, by decide +kernel, by decide +kernel⟩
section
variable {P : Program} {w : World} {K : PySem.W.Frag} {mg : Str → Option Value} {base : Heap}
theorem ok_checkWheel {f CW : Addr} {fd : FuncData} {k j : Nat} (F : Fun K "check_wheel" "check_wheel" sCheckWheel f fd) (D : Kn P w K mg base CX0 j "is_wheel" ["number"] spIsWheel) (hj : j ≤ k)
    (T : Rf K mg "BadWheel" CW) : FnOk P w K mg base (L2.CX P w) (k + 1) f fd ["wheel"] (spCheckWheel CW) := by
  refine F.okX scCheckWheel (fun vs H Q E h => ?_) (fun cdv A outer s H vs Q E hr h => ?_)
  · obtain ⟨n, rfl, _⟩ := h
    rfl
  · obtain ⟨n, rfl, sm, q1, q2⟩ := h
    refine ⟨_, pss_one (ps_if (pt_not (pt_val (pe_kn D hr hj (pa_cons (pv 0) pa_nil) rfl)))
      (pss_one (ps_rf rfl T (takes_of rfl rfl rfl rfl) rfl (pe_joined (.cons pe_str (.cons (pe_fmt (pv 0)) .nil))))) pss_nil), ?_⟩
    refine ⟨_, rfl, n, rfl, _, rfl, ite2 (fun e => ?_) (fun e => ?_)⟩
    · have h1 : ¬ Wh n := by simpa using e
      exact tJs2 (i := 0) rfl (by decide +kernel) sm fun _ => q2 h1
    · have h1 : Wh n := by simpa using e
      exact q1 h1
end

abbrev sCheckSeen : Stmt := topS 15
theorem scCheckSeen : FnScope ["wheel", "seen"] ["wheel", "seen"] (defScope sCheckSeen) := ⟨rfl, rfl, rfl, by decide +kernel, rfl, by decide +kernel, by decide +kernel⟩
section
variable {P : Program} {w : World} {K : PySem.W.Frag} {mg : Str → Option Value} {base : Heap}
theorem ok_checkSeen {f CS : Addr} {fd : FuncData} {k : Nat} (F : Fun K "check_seen" "check_seen" sCheckSeen f fd) (T : Rf K mg "BadSeen" CS) : FnOk P w K mg base (L2.CX P w) (k + 1) f fd ["wheel", "seen"] (spCheckSeen CS) := by
  refine F.okX scCheckSeen (fun vs H Q E h => ?_) (fun cdv A outer s H vs Q E hr h => ?_)
  · obtain ⟨n, s, rfl, _⟩ := h
    rfl
  · obtain ⟨n, s, rfl, sm, sm2, q1, q2⟩ := h
    refine ⟨_, pss_one (ps_if (pt_not (pt_chain op_le op_lt pe_int (pv 1) (pv 0)))
      (pss_one (ps_rf rfl T (takes_of rfl rfl rfl rfl) rfl (pe_joined (.cons pe_str (.cons (pe_fmt (pv 0)) (.cons pe_str (.cons (pe_fmt (pv 1)) .nil))))))) pss_nil), ?_⟩
    have bad : ¬ Sn n s → _ := fun h1 => tJs4 (i := 0) (j := 1) (a := "the wheel ") (b := " doesn't show ") (σ := start ["wheel", "seen"] [.int n, .int s]) (H := H) (Q := fun _ H1 => E (.ref CS) none H1) rfl rfl (by decide +kernel) (by decide +kernel) sm sm2 fun _ => q2 h1
    refine ⟨_, rfl, _, _, rfl, rfl, _, rfl, ite2 (fun e => ?_) (fun e => ?_)⟩
    · have h1 : 0 ≤ s := of_decide_eq_true e
      refine ⟨_, rfl, _, _, rfl, rfl, _, rfl, ite2 (fun e2 => ?_) (fun e2 => ?_)⟩
      · exact bad fun z => by
          have h2 : ¬ s < n := by simpa using e2
          exact h2 z.2
      · have h2 : s < n := by simpa using e2
        exact q1 ⟨h1, h2⟩
    · refine ⟨_, rfl, iteT ?_⟩
      exact bad fun z => e (decide_eq_true z.1)
end

abbrev sSince : Stmt := topS 16
theorem scSince : FnScope ["wheel", "one", "other"] ["wheel", "one", "other"] (defScope sSince) := ⟨rfl, rfl, rfl, by decide +kernel, rfl, by decide +kernel, by decide +kernel⟩
section
variable {P : Program} {w : World} {K : PySem.W.Frag} {mg : Str → Option Value} {base : Heap}
theorem ok_since {f CW CS : Addr} {fd : FuncData} {k i j : Nat} (F : Fun K "since" "since" sSince f fd) (DW : Kn P w K mg base (L2.CX P w) i "check_wheel" ["wheel"] (spCheckWheel CW))
    (DS : Kn P w K mg base (L2.CX P w) j "check_seen" ["wheel", "seen"] (spCheckSeen CS)) (hi : i ≤ k) (hj : j ≤ k) : FnOk P w K mg base (L2.CX P w) (k + 1) f fd ["wheel", "one", "other"] (spTwo CW CS sinceV) := by
  refine F.okX scSince (fun vs H Q E h => ?_) (fun cdv A outer s H vs Q E hr h => ?_)
  · obtain ⟨n, a, b, rfl, _⟩ := h
    rfl
  · obtain ⟨n, a, b, rfl, s1, s2, s3, e1, e2, e3, q⟩ := h
    have hx := passes_call (X := cxOf (L2.CX P w) P w K mg base ["wheel", "one", "other"] "since" (defScope sSince) f cdv A outer s H E) (E := E) (takes_of (E := E) rfl rfl rfl rfl) (fun _ _ _ _ h => h)
    refine ⟨_, pss_cons (ps_expr (pe_knX DW hr hi hx (pa_cons (pv 0) pa_nil) rfl))
      (pss_cons (ps_expr (pe_knX DS hr hj hx (pa_cons (pv 0) (pa_cons (pv 1) pa_nil)) rfl))
      (pss_cons (ps_expr (pe_knX DS hr hj hx (pa_cons (pv 0) (pa_cons (pv 2) pa_nil)) rfl))
      (pss_one (ps_ret (pe_op op_mod (pe_op op_sub (pv 2) (pv 1)) (pv 0)))))), ?_⟩
    refine ⟨_, rfl, n, rfl, s1, fun h1 => ?_, e1⟩
    refine ⟨_, rfl, _, rfl, n, a, rfl, s1, s2, fun h2 => ?_, e2 h1⟩
    refine ⟨_, rfl, _, rfl, n, b, rfl, s1, s3, fun h3 => ?_, e3 h1 h2⟩
    refine ⟨_, rfl, _, rfl, _, _, rfl, rfl, _, rfl, _, _, rfl, rfl, ?_, q h1 h2 h3⟩
    have := h1.1
    show (0 : Int) < n
    omega
end

abbrev sOrder : Stmt := topS 17
theorem scOrder : FnScope ["wheel", "one", "other", "twice"] ["wheel", "one", "other"] (defScope sOrder) := ⟨rfl, rfl, rfl, by decide +kernel, rfl, by decide +kernel, by decide +kernel⟩
section
variable {P : Program} {w : World} {K : PySem.W.Frag} {mg : Str → Option Value} {base : Heap}
theorem ok_order {f CW CS : Addr} {fd : FuncData} {k j : Nat} (F : Fun K "order" "order" sOrder f fd) (D : Kn P w K mg base (L2.CX P w) j "since" ["wheel", "one", "other"] (spTwo CW CS sinceV)) (hj : j ≤ k) :
    FnOk P w K mg base (L2.CX P w) (k + 1) f fd ["wheel", "one", "other"] (spTwo CW CS orderV) := by
  refine F.okX scOrder (fun vs H Q E h => ?_) (fun cdv A outer s H vs Q E hr h => ?_)
  · obtain ⟨n, a, b, rfl, _⟩ := h
    rfl
  · obtain ⟨n, a, b, rfl, s1, s2, s3, e1, e2, e3, q⟩ := h
    have hx := passes_call (X := cxOf (L2.CX P w) P w K mg base ["wheel", "one", "other", "twice"] "order" (defScope sOrder) f cdv A outer s H E) (E := E) (takes_of (E := E) rfl rfl rfl rfl) (fun _ _ _ _ h => h)
    refine ⟨_, pss_cons (ps_set (i := 3) scOrder.nd rfl (.inl rfl) (pe_op op_mul pe_int (pe_knX D hr hj hx (pa_cons (pv 0) (pa_cons (pv 1) (pa_cons (pv 2) pa_nil))) rfl)))
      (pss_cons (ps_if (pt_cmpR op_eq (pv 3) pe_int (nomark _)) (pss_one (ps_ret pe_str)) pss_nil)
      (pss_cons (ps_if (pt_cmpR op_eq (pv 3) (pv 0) (nomark _)) (pss_one (ps_ret pe_str)) pss_nil)
      (pss_one (ps_ret (pe_ifExp (pt_cmpR op_lt (pv 3) (pv 0) (nomark _)) pe_str pe_str))))), ?_⟩
    refine ⟨_, rfl, _, rfl, _, rfl, n, a, b, rfl, s1, s2, s3, e1, e2, e3, fun h1 h2 h3 => ?_⟩
    have q := q h1 h2 h3
    unfold orderV ordW at q
    unfold sinceV
    generalize (b - a) % n = d at q ⊢
    refine ⟨2, d, rfl, rfl, .inl ⟨by decide, by decide⟩, _, rfl, rfl, _, rfl, ite2 (fun e => ?_) (fun e => ?_)⟩
    · have z : 2 * d = 0 := V.int.inj (of_decide_eq_true e)
      rw [if_pos z] at q
      exact q
    have z : ¬ 2 * d = 0 := fun z => e (decide_eq_true (congrArg V.int z))
    rw [if_neg z] at q
    refine ⟨_, rfl, _, rfl, rfl, _, rfl, ite2 (fun e => ?_) (fun e => ?_)⟩
    · have z : 2 * d = n := V.int.inj (of_decide_eq_true e)
      rw [if_pos z] at q
      exact q
    have z : ¬ 2 * d = n := fun z => e (decide_eq_true (congrArg V.int z))
    rw [if_neg z] at q
    refine ⟨_, rfl, _, rfl, _, _, rfl, rfl, _, rfl, ite2 (fun e => ?_) (fun e => ?_)⟩
    · have z : 2 * d < n := of_decide_eq_true e
      rw [if_pos z] at q
      exact q
    · have z : ¬ 2 * d < n := fun z => e (decide_eq_true z)
      rw [if_neg z] at q
      exact q
end

/-! quiet -/
section
variable {P : Program} {w : World} {K : PySem.W.Frag} {mg : Str → Option Value} {base : Heap}
open Qz
theorem q_isWheel {f : Addr} {fd : FuncData} {k : Nat} {t1 t2 : Tok} {n : Int} (F : Fun K "is_wheel" "is_wheel" sIsWheel f fd) (b : Binds K fd ["number"] []) (M : Mod K mg base) (g1 : mg "LEAST_WHEEL" = some (.int 2 t1)) (g2 : mg "MOST_WHEEL" = some (.int 1000000000000 t2))
    (h : Wh n) : QFn P w base (k + 1) f [.int n] (.bl true) := by
  refine qfn_of F scIsWheel b M rfl (by decide +kernel) fun cdv A s L hr hb hv => ?_
  exact qs_ret (qv_chain cmp_le cmp_le
    (qv_glob (v := .int 2) (x := "LEAST_WHEEL") M hb rfl rfl rfl g1 ⟨_, rfl⟩) (hv 0 "number" (.int n) _ rfl rfl (by decide)) (qv_glob (v := .int 1000000000000) (x := "MOST_WHEEL") M hb rfl rfl rfl g2 ⟨_, rfl⟩) (decide_eq_true h.1) (decide_eq_true h.2))
theorem q_checkWheel {f g : Addr} {fd : FuncData} {k : Nat} {n : Int} (F : Fun K "check_wheel" "check_wheel" sCheckWheel f fd) (b : Binds K fd ["wheel"] []) (M : Mod K mg base) (gi : mg "is_wheel" = some (.ref g)) (ki : PySem.W.keepIn K (.ref g) = true)
    (D : QFn P w base k g [.int n] (.bl true)) : QFn P w base (k + 1) f [.int n] .non := by
  refine qfn_of F scCheckWheel b M rfl (by decide +kernel) fun cdv A s L hr hb hv => ?_
  exact qs_if0 (qt_not (b := true) (qt_val (qv_call D M hb hr rfl rfl rfl gi ki (qa_cons (hv 0 "wheel" (.int n) _ rfl rfl (by decide)) qa_nil)))) qs_nil
theorem q_checkSeen {f : Addr} {fd : FuncData} {k : Nat} {n a : Int} (F : Fun K "check_seen" "check_seen" sCheckSeen f fd) (b : Binds K fd ["wheel", "seen"] []) (M : Mod K mg base) (h : Sn n a) : QFn P w base (k + 1) f [.int n, .int a] .non := by
  refine qfn_of F scCheckSeen b M rfl (by decide +kernel) fun cdv A s L hr hb hv => ?_
  exact qs_if0 (qt_not (b := true) (qt_chain cmp_le cmp_lt
    (qv_int (i := 0)) (hv 1 "seen" (.int a) _ rfl rfl (by decide)) (hv 0 "wheel" (.int n) _ rfl rfl (by decide)) (decide_eq_true h.1) (decide_eq_true h.2))) qs_nil
theorem q_since {f g g2 : Addr} {fd : FuncData} {k : Nat} {n a c : Int} (F : Fun K "since" "since" sSince f fd) (b : Binds K fd ["wheel", "one", "other"] []) (M : Mod K mg base) (gw : mg "check_wheel" = some (.ref g)) (kw : PySem.W.keepIn K (.ref g) = true)
    (gs : mg "check_seen" = some (.ref g2)) (ks : PySem.W.keepIn K (.ref g2) = true) (hn : 0 < n)
    (D : QFn P w base k g [.int n] .non) (D1 : QFn P w base k g2 [.int n, .int a] .non) (D2 : QFn P w base k g2 [.int n, .int c] .non) : QFn P w base (k + 1) f [.int n, .int a, .int c] (.int ((c - a) % n)) := by
  refine qfn_of F scSince b M rfl (by decide +kernel) fun cdv A s L hr hb hv => ?_
  exact qs_expr (qv_call D M hb hr rfl rfl rfl gw kw (qa_cons (hv 0 "wheel" (.int n) _ rfl rfl (by decide)) qa_nil))
    (qs_expr (qv_call D1 M hb hr rfl rfl rfl gs ks (qa_cons (hv 0 "wheel" (.int n) _ rfl rfl (by decide)) (qa_cons (hv 1 "one" (.int a) _ rfl rfl (by decide)) qa_nil)))
    (qs_expr (qv_call D2 M hb hr rfl rfl rfl gs ks (qa_cons (hv 0 "wheel" (.int n) _ rfl rfl (by decide)) (qa_cons (hv 2 "other" (.int c) _ rfl rfl (by decide)) qa_nil)))
    (qs_ret (qv_mod hn (qv_sub (hv 2 "other" (.int c) _ rfl rfl (by decide)) (hv 1 "one" (.int a) _ rfl rfl (by decide))) (hv 0 "wheel" (.int n) _ rfl rfl (by decide)))) rfl) rfl) rfl
end

end K8

namespace K8
open PySem PySem.Spec PyProof.Rows L2 LamX NdefX Lx
abbrev sCheckRow : Stmt := topS 22
theorem scCheckRow : FnScope ["wheel", "seen", "number"] ["wheel", "seen"] (defScope sCheckRow) := ⟨rfl, rfl, rfl, by decide +kernel, rfl, by decide +kernel, by decide +kernel⟩
section
variable {P : Program} {w : World} {K : PySem.W.Frag} {mg : Str → Option Value} {base : Heap}
theorem ok_checkRow {f CS : Addr} {fd : FuncData} {k i : Nat} {t0 : Tok} (F : Fun K "_check_row" "_check_row" sCheckRow f fd) (DS : Kn P w K mg base (L2.CX P w) i "check_seen" ["wheel", "seen"] (spCheckSeen CS)) (hi : i ≤ k) (gl : mg "len" = none)
    (gm : mg "MOST_SEEN" = some (.int 60 t0)) (T : Rf K mg "BadSeen" CS) : FnOk P w K mg base (L2.CX P w) (k + 1) f fd ["wheel", "seen"] (spCheckRow K CS) := by
  refine F.okX scCheckRow (fun vs H Q E h => ?_) (fun cdv A outer s H vs Q E hr h => ?_)
  · obtain ⟨n, a, ns, rfl, _⟩ := h
    rfl
  · obtain ⟨n, a, ns, rfl, hS, smn, hlen, smx, q1, q2⟩ := h
    have nd := scCheckRow.nd
    have hx := passes_call (X := cxOf (L2.CX P w) P w K mg base ["wheel", "seen", "number"] "_check_row" (defScope sCheckRow) f cdv A outer s H E) (E := E) (takes_of (E := E) rfl rfl rfl rfl) (fun _ _ _ _ h => h)
    refine ⟨_, pss_cons (ps_if (pt_cmpR op_gt (pe_callB call_len_seq (by rfl) gl PySem.boot_len (pa_cons (pv 1) pa_nil)) (pe_glob (v := .int 60) rfl gm ⟨_, rfl⟩) (nomark _))
        (pss_one (ps_rf rfl T (takes_of rfl rfl rfl rfl) rfl (pe_joined (.cons pe_str (.cons (pe_fmt (pe_glob (v := .int 60) rfl gm ⟨_, rfl⟩)) (.cons pe_str (.cons (pe_fmt (pe_callB call_len_seq (by rfl) gl PySem.boot_len (pa_cons (pv 1) pa_nil))) .nil))))))) pss_nil)
      (pss_one (ps_for (passes_of rfl) rfl (pi_list (pv 1)) (pg_name (i := 2) nd rfl (.inl rfl))
        (pss_one (ps_expr (pe_knX DS hr hi hx (pa_cons (pv 0) (pa_cons (pv 2) pa_nil)) rfl))))), ?_⟩
    have el : ((ns.map V.int).length : Int) = (ns.length : Int) := by rw [List.length_map]
    refine ⟨.ref a, rfl, a, _, rfl, .inl hS, _, _, rfl, rfl, _, rfl, ite2 (fun e => ?_) (fun e => ?_)⟩
    · have h : (60 : Int) < ((ns.map V.int).length : Int) := of_decide_eq_true e
      rw [el] at h
      have l1 : (60 : Int).natAbs.log2 < 1920 := log_of (by decide)
      have l2 : (((ns.map V.int).length : Nat) : Int).natAbs.log2 < 1920 := by
        rw [List.length_map]
        exact Sm.log ⟨by omega, by omega⟩
      have f1 : (Str.empty ++ ("at most " : Str)).length ≤ 1000 := by decide +kernel
      have f2 := str_fit f1 (int_text_len_1921 l1)
      have f3 := str_fit f2 (show (" shown numbers, not " : Str).length ≤ 1000 by decide +kernel)
      have f4 := str_fit f3 (int_text_len_1921 l2)
      exact ⟨_, rfl, fit f1 (by decide), .inr ⟨60, rfl, l1, _, rfl, fit f2 (by decide), _, rfl, fit f3 (by decide), .ref a, rfl, a, _, rfl, .inl hS, .inr ⟨_, rfl, l2, _, rfl, fit f4 (by decide), q1 (.inl (by omega))⟩⟩⟩
    have h : ¬ (60 : Int) < ((ns.map V.int).length : Int) := fun z => e (decide_eq_true z)
    rw [el] at h
    refine ⟨.ref a, rfl, a, rfl, ⟨_, hS⟩, for_list (K := K) (a := a) (xs := ns.map V.int)
      (fun i σ H' => H' = H ∧ (∃ y, σ = [some (.int n), some (.ref a), y]) ∧ ∀ x ∈ ns.take i, Sn n x)
      ⟨rfl, ⟨none, rfl⟩, fun _ z => nomatch z⟩ (fun i σ H' _ h => by rw [h.1]; exact hS) ?_ ?_⟩
    · rintro i y σ H' hi ⟨rfl, ⟨o, rfl⟩, bef⟩
      obtain ⟨z, rfl, hz, mz, _⟩ := at_map hi
      refine ⟨_, rfl, _, rfl, n, z, rfl, smn, smx z mz, fun hs => ?_, fun hs => q1 (.inr ⟨z, mz, hs⟩)⟩
      refine ⟨rfl, ⟨_, rfl⟩, fun x hx => ?_⟩
      rw [List.take_add_one, hz] at hx
      rcases List.mem_append.mp hx with hx | hx
      · exact bef x hx
      · rw [show x = z by simpa using hx]; exact hs
    · rintro σ H' ⟨rfl, ⟨o, rfl⟩, bef⟩
      rw [List.length_map, List.take_length] at bef
      exact q2 (by omega) bef
end

abbrev sLie : Stmt := topS 23
abbrev NLie : List Str := ["wheel", "span", "begin", "seen"]
theorem scLie : FnScope NLie NLie (defScope sLie) := ⟨rfl, rfl, rfl, by decide +kernel, rfl, by decide +kernel, by decide +kernel⟩
def retV : Stmt → Expr
  | .Return (some e) _ => e
  | _ => .Name "" ⟨0, 0, 0, 0⟩
def genS : Expr → Scope
  | .Call _ [.GeneratorExp _ _ s _] _ _ => s
  | _ => { kind := .function, names := [], isGenerator := false, isCoroutine := false }
abbrev lieS : Scope := genS (retV ((defBody sLie).getD 0 (.Pass ⟨0, 0, 0, 0⟩)))
theorem lieC : (∀ y ∈ lieS.names, y.2 ≠ .cell) ∧ (∀ y ∈ lieS.names, y.2 = .free → (defScope sLie).names.lookup y.1 = some .cell) := by decide +kernel
section
variable {P : Program} {w : World} {K : PySem.W.Frag} {mg : Str → Option Value} {base : Heap}
open Qz
theorem ok_lie {f c P1 g : Addr} {k : Nat} {oc kV doc pm ct : Value} {od an : Option Addr} {osl : Array (Option Value)}
    (lk : K.lookup f = some ⟨oc, od, .func (PySem.W.fnOf "_lie_within" "_lie_within" (defArgs sLie) (defBody sLie) (defScope sLie) .none kV doc pm an (.ref c) ct), osl⟩) (hcd : PySem.W.codeIn K (.ref c) "_lie_within" = true) (TB : LamX.TabB base mg c P1)
    (ga : mg "all" = none) (gs : mg "since" = some (.ref g)) (ks : PySem.W.keepIn K (.ref g) = true) (hk : 4 ≤ k)
    (QS : Mod K mg base → ∀ n a b, Wh n → Sn n a → Sn n b → QFn P w base 3 g [.int n, .int a, .int b] (.int ((b - a) % n))) :
    FnOk P w K mg base CX0 (k + 1) f (PySem.W.fnOf "_lie_within" "_lie_within" (defArgs sLie) (defBody sLie) (defScope sLie) .none kV doc pm an (.ref c) ct) NLie (spLie K P1) := by
  refine fn_of lk hcd scLie (fun vs H Q E h => ?_) fun A outer s H vs Q E hr h => ?_
  · obtain ⟨n, sp, b, a, ns, rfl, _⟩ := h
    rfl
  obtain ⟨n, sp, b, a, ns, rfl, hn, hb, hS, hx, tg, q⟩ := h
  suffices h : ∃ t, PSs (cxOf CX0 P w K mg base NLie "_lie_within" (defScope sLie) f (.ref c) A outer s H E).nox (defBody sLie) t ∧ t { nx := fun _ H' => Q .non H', rt := Q } (start NLie [.int n, .int sp, .int b, .ref a]) H by
    obtain ⟨t, h1, h2⟩ := h
    exact ⟨t, h1.nox, h2⟩
  refine ⟨_, pss_one (ps_ret (pe_allL (X := (cxOf CX0 P w K mg base NLie "_lie_within" (defScope sLie) f (.ref c) A outer s H E).nox) (scope := lieS) (P := P1) hr rfl ga ⟨TB.code, TB.bm, TB.gP⟩ rfl ⟨rfl, rfl, lieC.1, rfl, rfl, lieC.2⟩ (pv 3) (by intro _; rfl))), ?_⟩
  refine ⟨.ref a, rfl, a, ns, fun x => decide ((x - b) % n ≤ sp), rfl, hS, tg, fun x hxm M A' cenv s2 hh hd hu hsc hgl hbs qx qn => ?_, q⟩
  obtain ⟨sc0, lc0, gl0, ce0, qu0, fu0, co0, fr0, bi0⟩ := cenv
  obtain rfl : sc0 = lieS := hsc
  have hr2 : Room 3 A' := ⟨hh, by have := hr.dp; have h2 : A'.depth ≤ (A.deeper (envOfC "_lie_within" (defScope sLie) s.heap.objs.size f (.ref c))).depth + 1 := hd; omega,
    by have := hr.un; have h2 : A'.units ≤ (A.deeper (envOfC "_lie_within" (defScope sLie) s.heap.objs.size f (.ref c))).units + 8 := hu; omega⟩
  exact qv_cmp cmp_le (qv_call (QS M n b x hn hb (hx x hxm)) M hbs hr2 rfl rfl hgl gs ks (qa_cons (qn 0 "wheel" (.int n) _ rfl rfl rfl (by decide) (by decide)) (qa_cons (qn 2 "begin" (.int b) _ rfl rfl rfl (by decide) (by decide)) (qa_cons (qx _) qa_nil))))
    (qn 1 "span" (.int sp) _ rfl rfl rfl (by decide) (by decide))
end

abbrev sPl : Stmt := topS 24
abbrev NPl : List Str := ["wheel", "begin", "seen", "rows", "place", "number", "_"]
theorem scPl : FnScope NPl ["wheel", "begin", "seen"] (defScope sPl) := ⟨rfl, rfl, rfl, by decide +kernel, rfl, by decide +kernel, by decide +kernel⟩
section
variable {P : Program} {w : World} {K : PySem.W.Frag} {mg : Str → Option Value} {base : Heap}
theorem ok_places {f CW CS : Addr} {fd : FuncData} {k i : Nat} (F : Fun K "_places_from" "_places_from" sPl f fd) (D : Kn P w K mg base (L2.CX P w) i "since" ["wheel", "one", "other"] (spTwo CW CS sinceV)) (hi : i ≤ k) (gs : mg "sorted" = none) (ge : mg "enumerate" = none) :
    FnOk P w K mg base (L2.CX P w) (k + 1) f fd ["wheel", "begin", "seen"] (spPlaces K) := by
  refine F.okX scPl (fun vs H Q E h => ?_) (fun cdv A outer s H vs Q E hr h => ?_)
  · obtain ⟨n, b, a, ns, rfl, _⟩ := h
    rfl
  · obtain ⟨n, b, a, ns, rfl, hn, hb, hS, hx, hlen, q⟩ := h
    have nd := scPl.nd
    have smn : Sm n := ⟨by have := hn.1; omega, by have := hn.2; omega⟩
    have sms : ∀ x, Sn n x → Sm x := fun x hx => ⟨by have := hx.1; omega, by have := hx.2; have := hn.2; omega⟩
    refine ⟨_, pss_cons (ps_set (i := 3) nd rfl (.inl rfl) (pe_callB cr_sortedPO (by rfl) gs (by rfl) (pa_cons (pe_lc (wi := iEnum K (tCons (tVar 2) tNil)) (own := [("place", 4), ("number", 5)]) (g := gTup K 2 (gCons (gName 4) (gCons (gName 5) gNil))) (tt := tYes) (by rfl) nd (pi_enum (by rfl) ge (pa_cons (pv 2) pa_nil))
          (blkOk_by (own := [("place", 4), ("number", 5)]) (N := NPl) (sc := defScope sPl) (by decide +kernel)) (fun _ _ _ _ _ => pg_tup rfl (pgs_cons (pg_name (i := 4) nd rfl (.inl rfl) (.inr rfl)) (pgs_cons (pg_name (i := 5) nd rfl (.inl rfl) (.inr rfl)) pgs_nil))) (fun _ _ _ _ _ => pts_nil)
          (fun _ _ _ _ _ => pe_tup (pa_cons (pe_knL D hr hi (pa_cons (pv 0) (pa_cons (pv 1) (pa_cons (pv 5) pa_nil))) rfl) (pa_cons (pv 4) pa_nil)))) pa_nil)))
      (pss_one (ps_ret (pe_lc (wi := iList K (tVar 3)) (own := [("_", 6), ("place", 4)]) (g := gTup K 2 (gCons (gName 6) (gCons (gName 4) gNil))) (tt := tYes) (by rfl) nd (pi_list (pv 3)) (blkOk_by (own := [("_", 6), ("place", 4)]) (N := NPl) (sc := defScope sPl) (by decide +kernel))
          (fun _ _ _ _ _ => pg_tup rfl (pgs_cons (pg_name (i := 6) nd rfl (.inl rfl) (.inr rfl)) (pgs_cons (pg_name (i := 4) nd rfl (.inl rfl) (.inr rfl)) pgs_nil))) (fun _ _ _ _ _ => pts_nil) (fun _ _ _ _ _ => pv 4)))), ?_⟩
    refine ⟨.ref a, rfl, a, _, rfl, hS, fun D hD => ?_⟩
    refine lc_it (walk_enum (K := K) (a := a) (xs := ns.map V.int)) (fun i H' => Same H H' ∧ ∃ rows : List V, H' D = some (.lst rows) ∧ rows.length = i ∧ (∀ j, j < i → ∃ T, rows[j]? = some (.ref T) ∧ T ≠ D ∧ H' T = some (.tup [.int (farW n b ns j), .int (j : Nat)])))
      ⟨same_new hD, [], upd_same, rfl, fun _ z => absurd z (by omega)⟩ (fun i H' _ h => h.1.seq hS) ?_ ?_
    · rintro i x H1 H2 hi ⟨s1, rows, eD, lr, hrow⟩ ⟨T, u, v, rfl, nT, rfl, eu, ev⟩
      have eu := (Option.some.inj eu).symm
      subst eu
      obtain ⟨z, rfl, hz, mz, dz⟩ := at_map ev
      rw [List.length_map] at hi
      have s2 := same_new (o := .tup [.int (i : Int), .int z]) nT
      refine ⟨T, _, rfl, SqT.of upd_same, rfl, _, _, rfl, _, _, rfl, rfl, ?_⟩
      refine ⟨rfl, _, rfl, _, rfl, _, rfl, n, b, z, rfl, smn, sms b hb, sms z (hx z mz), fun w => absurd hn w, fun _ w => absurd hb w, fun _ _ w => absurd (hx z mz) w, fun _ _ _ => ?_⟩
      refine ⟨_, rfl, by show 2 ≤ sizeLine; decide, fun p hp => ?_⟩
      have s3 := s2.trans (same_new (o := .tup [sinceV n b z, .int (i : Nat)]) hp)
      have lz : ns.length < sizeLine := by rw [sizeLine_eq]; omega
      have nDp : D ≠ p := ne_of_none (s2 _ _ eD) hp
      refine ⟨rows, s3 _ _ eD, by omega, ?_, rows ++ [.ref p], upd_same, by rw [List.length_append, lr]; rfl, fun j hj => ?_⟩
      · exact fun b o e => by
          rw [upd_ne (ne_of_none e hD)]
          exact s3 b o (s1 b o e)
      · by_cases hji : j < i
        · obtain ⟨T', e1, e2, e3⟩ := hrow j hji
          refine ⟨T', ?_, e2, ?_⟩
          · rw [List.getElem?_append_left (by omega)]
            exact e1
          · rw [upd_ne e2]
            exact s3 _ _ e3
        · obtain rfl : j = i := by omega
          refine ⟨p, ?_, fun z => nDp z.symm, ?_⟩
          · rw [List.getElem?_append_right (by omega), lr, Nat.sub_self]
            rfl
          · rw [upd_ne (fun z => nDp z.symm), upd_same]
            show some (HO.tup [V.int ((z - b) % n), V.int (j : Nat)]) = some (HO.tup [V.int (farW n b ns j), V.int (j : Nat)])
            unfold farW
            rw [dz]
    · rintro H1 ⟨s1, rows, eD, lr, hrow⟩
      rw [List.length_map] at lr hrow
      refine ⟨D, rows, pairK H1, rfl, SqL.of eD, fun x hx => ?_, fun ys p h1 h2 hp => ?_⟩
      · obtain ⟨j, hj, e⟩ := List.getElem_of_mem hx
        obtain ⟨T, e1, _, e3⟩ := hrow j (by omega)
        rw [List.getElem?_eq_getElem hj, e] at e1
        rw [Option.some.inj e1]
        exact ⟨T, rfl, by rw [pairK_at e3]; exact e3⟩
      obtain ⟨rk, mem⟩ := ranked_of (f := farW n b ns) (fun j hj => by
        obtain ⟨T, e1, _, e3⟩ := hrow j (by omega)
        exact ⟨T, e1, e3⟩) h1 h2
      rw [lr] at rk
      have s2 := same_new (o := .lst ys) hp
      have ly : ys.length = ns.length := by rw [h2.perm.length_eq, lr]
      have lz : ns.length < sizeLine := by rw [sizeLine_eq]; omega
      refine ⟨.ref p, rfl, p, rfl, ⟨_, SqL.of upd_same⟩, fun D2 hD2 => ?_⟩
      have s3 := s2.trans (same_new (o := .lst []) hD2)
      refine lc_list (K := K) (a := p) (xs := ys) (fun i H' => Same (upd H1 p (.lst ys)) H' ∧ H' D2 = some (.lst ((ys.map fun v => V.int ((pairK H1 v).2.toNat : Nat)).take i)))
        ⟨same_new hD2, upd_same⟩ (fun i H' _ h => SqL.of (h.1 _ _ upd_same)) ?_ ?_
      · rintro i y H2 hi ⟨s4, e4⟩
        obtain ⟨T, j, rfl, e5⟩ := mem y (List.mem_of_getElem? hi)
        have il : i < ys.length := (List.getElem?_eq_some_iff.mp hi).1
        refine ⟨T, _, rfl, SqT.of (s4 _ _ (s2 _ _ e5)), rfl, _, _, rfl, _, _, rfl, rfl, ?_⟩
        refine ⟨rfl, _, rfl, _, e4, ?_, ?_, ?_⟩
        · rw [List.length_take, List.length_map]
          omega
        · exact fun b o e => by
            rw [upd_ne (ne_of_none e hD2)]
            exact s4 b o e
        · rw [upd_same, List.take_add_one, List.getElem?_map, hi]
          show some (HO.lst (_ ++ [V.int (j : Nat)])) = some (HO.lst (_ ++ [V.int ((pairK H1 (.ref T)).2.toNat : Nat)]))
          rw [pairK_at e5]
          rfl
      · rintro H2 ⟨s4, e4⟩
        rw [List.take_of_length_le (by rw [List.length_map]; omega)] at e4
        refine q H2 D2 _ (s1.trans (s2.trans s4)) (s1.free (s2.free hD2)) ?_ rk
        rw [e4, List.map_map]
        rfl
end

abbrev sArr : Stmt := topS 20
abbrev NArr : List Str := ["wheel", "span", "seen", "begins", "begin"]
theorem scArr : FnScope NArr ["wheel", "span", "seen"] (defScope sArr) := ⟨rfl, rfl, rfl, by decide +kernel, rfl, by decide +kernel, by decide +kernel⟩
section
variable {P : Program} {w : World} {K : PySem.W.Frag} {mg : Str → Option Value} {base : Heap}
theorem ok_arr {f CW CS CP CN P1 : Addr} {fd : FuncData} {k i j : Nat} (F : Fun K "arranged" "arranged" sArr f fd) (DW : Kn P w K mg base (L2.CX P w) i "check_wheel" ["wheel"] (spCheckWheel CW))
    (DR : Kn P w K mg base (L2.CX P w) i "_check_row" ["wheel", "seen"] (spCheckRow K CS)) (DL : Kn P w K mg base CX0 j "_lie_within" ["wheel", "span", "begin", "seen"] (spLie K P1)) (DP : Kn P w K mg base (L2.CX P w) i "_places_from" ["wheel", "begin", "seen"] (spPlaces K))
    (hi : i ≤ k) (hj : j ≤ k) (gl : mg "len" = none) (gso : mg "sorted" = none) (gse : mg "set" = none) (TP : Rf K mg "BadSpan" CP) (TN : Rf K mg "NoSpan" CN) :
    FnOk P w K mg base (L2.CX P w) (k + 1) f fd ["wheel", "span", "seen"] (spArr K CW CS CP CN P1) := by
  refine F.okX scArr (fun vs H Q E h => ?_) (fun cdv A outer s H vs Q E hr h => ?_)
  · obtain ⟨n, sp, a, ns, rfl, _⟩ := h
    rfl
  · obtain ⟨n, sp, a, ns, rfl, hS, smn, sms, hlen, smx, tg, hn, eP, eS, q⟩ := h
    have nd := scArr.nd
    have hx := passes_call (X := cxOf (L2.CX P w) P w K mg base NArr "arranged" (defScope sArr) f cdv A outer s H E) (E := E) (takes_of (E := E) rfl rfl rfl rfl) (fun _ _ _ _ h => h)
    refine ⟨_, pss_cons (ps_expr (pe_knX DW hr hi hx (pa_cons (pv 0) pa_nil) rfl))
      (pss_cons (ps_if (pt_not (pt_chain op_le op_lt pe_int (pv 1) (pv 0))) (pss_one (ps_rf rfl TP (takes_of rfl rfl rfl rfl) rfl (pe_joined (.cons pe_str (.cons (pe_fmt (pv 0)) (.cons pe_str (.cons (pe_fmt (pv 1)) .nil))))))) pss_nil)
      (pss_cons (ps_expr (pe_knX DR hr hi hx (pa_cons (pv 0) (pa_cons (pv 2) pa_nil)) rfl))
      (pss_cons (ps_if (pt_not (pt_truth (pv 2) (by intro _; rfl))) (pss_one (ps_ret (pe_lst pa_nil))) pss_nil)
      (C8.pss_cut (ps_setLc (i := 3) (own := [("begin", 4)]) (g := gName 4) (by rfl) nd rfl rfl (sw_true rfl rfl rfl (by decide +kernel)) (pi_list (pe_callB (cr_sortedSet rfl) (by rfl) gso (by rfl) (pa_cons (pe_callTy (Qz.cr_setL rfl) (by rfl) gse (by decide +kernel) (pa_cons (pv 2) pa_nil)) pa_nil)))
          (blkOk_by (own := [("begin", 4)]) (N := NArr) (sc := defScope sArr) (by decide +kernel)) (fun _ _ _ _ _ => pg_name (i := 4) nd rfl (.inl rfl) (.inr rfl))
          (fun _ _ _ _ _ => pts_one (pt_val (pe_kn DL hr hj (pa_cons (pv 0) (pa_cons (pv 1) (pa_cons (pv 4) (pa_cons (pv 2) pa_nil)))) rfl))) (fun _ _ _ _ _ => pv 4))
      (pss_cons (ps_if (pt_not (pt_truth (pv 3) (by intro _; rfl))) (pss_one (ps_rf rfl TN (takes_of rfl rfl rfl rfl) rfl (pe_joined (.cons pe_str (.cons (pe_fmt (pv 1)) .nil))))) pss_nil)
      (pss_cons (ps_if (pt_cmpR op_gt (pe_callB call_len_seq (by rfl) gl PySem.boot_len (pa_cons (pv 3) pa_nil)) pe_int (nomark _)) (pss_one (ps_ret pe_non)) pss_nil)
      (pss_one (ps_ret (pe_knX DP hr hi hx (pa_cons (pv 0) (pa_cons (pe_ix ix_list (pv 3) pe_int (fun _ _ => rfl)) (pa_cons (pv 2) pa_nil))) rfl)))))))))
      , ?_⟩
    have s0 : Same H H := .refl _
    refine ⟨_, rfl, n, rfl, smn, fun _ => ?_, fun z => absurd hn z⟩
    -- the span
    have bad : ¬ Sn n sp → _ := fun h1 => tJs4 (i := 0) (j := 1) (a := "the wheel ") (b := " has no span of ") (σ := start NArr [.int n, .int sp, .ref a]) (H := H) (Q := fun _ H1 => E (.ref CP) none H1) rfl rfl (by decide +kernel) (by decide +kernel) smn sms fun _ => eP h1 _ s0
    refine ⟨_, rfl, _, _, rfl, rfl, _, rfl, ite2 (fun e => ?_) (fun e => ?_)⟩
    rotate_left
    · refine ⟨_, rfl, iteT ?_⟩
      exact bad fun z => e (decide_eq_true z.1)
    have h1 : 0 ≤ sp := of_decide_eq_true e
    refine ⟨_, rfl, _, _, rfl, rfl, _, rfl, ite2 (fun e2 => ?_) (fun e2 => ?_)⟩
    · exact bad fun z => by
        have h2 : ¬ sp < n := by simpa using e2
        exact h2 z.2
    have hsp : Sn n sp := ⟨h1, by simpa using e2⟩
    refine ⟨_, rfl, _, rfl, n, a, ns, rfl, hS, smn, hlen, smx, fun z => eS hsp z _ s0, fun hl hx2 => ?_⟩
    obtain ⟨q1, q2⟩ := q hsp hl hx2
    refine ⟨.ref a, rfl, !(ns.map V.int).isEmpty, .inl ⟨_, hS, rfl⟩, ?_⟩
    by_cases hne : ns = []
    · subst hne
      exact iteT ⟨Nat.zero_le _, fun p hp => q1 rfl _ p (same_new hp) hp upd_same⟩
    have q2 := q2 hne
    have emp : (!(ns.map V.int).isEmpty) = true := by
      cases ns with
      | nil => exact absurd rfl hne
      | cons x r => rfl
    rw [emp]
    refine iteF ?_
    refine ⟨fun σ' H' => ∃ (pB : Addr) (bs : List Int), σ' = [some (.int n), some (.int sp), some (.ref a), some (.ref pB), none] ∧ ButP P1 H H' ∧ H' pB = some (.lst (bs.map V.int)) ∧ Begins n sp ns bs ∧ H pB = none, ?_, ?_⟩
    · refine ⟨.ref a, rfl, a, ns, rfl, hS, hlen, fun ps c hps hc => ?_⟩
      refine ⟨ps, _, c, rfl, upd_same, by omega, fun bs0 p2 inc mem len hp2 => ?_⟩
      refine ⟨p2, rfl, ⟨_, SqL.of upd_same⟩, fun D hD => ?_⟩
      have s1 := (same_new (o := SetO w ps (fun j => decide (j ∈ ns)) c) hps).trans (same_new (o := .lst (bs0.map V.int)) hp2)
      have s2 := s1.trans (same_new (o := .lst []) hD)
      have mem2 : ∀ x, x ∈ bs0 ↔ x ∈ ns := fun x => (mem x).trans decide_eq_true_iff
      refine lc_list (K := K) (a := p2) (xs := bs0.map V.int) (fun i H' => ButP P1 H H' ∧ H' p2 = some (.lst (bs0.map V.int)) ∧ H' D = some (.lst (((bs0.take i).filter fun b => inSpan n sp b ns).map V.int)))
        ⟨(ButP.refl tg).same s2, (same_new hD) _ _ upd_same, upd_same⟩ (fun i H' _ h => SqL.of h.2.1) ?_ ?_
      · rintro i y H1 hi ⟨b1, e2, eD⟩
        obtain ⟨z, rfl, hz, mz, dz⟩ := at_map hi
        have mzn := (mem2 z).mp mz
        refine ⟨rfl, _, rfl, _, rfl, _, rfl, _, rfl, n, sp, z, a, ns, rfl, hn, hx2 z mzn, b1.seq tg hS, hx2, b1.1, fun H2 hT => ⟨_, rfl, ?_⟩⟩
        have b2 := ButP.of hT
        have eD2 := b2.ext b1.1 D _ eD (fun _ z => nomatch z)
        have ep2 := b2.ext b1.1 p2 _ e2 (fun _ z => nomatch z)
        have etk : bs0.take (i + 1) = bs0.take i ++ [z] := by
          rw [List.take_add_one, hz]
          rfl
        have ll : ((bs0.take i).filter fun b => inSpan n sp b ns).length < sizeLine := by
          have l1 := List.length_filter_le (fun b => inSpan n sp b ns) (bs0.take i)
          have l2 : (bs0.take i).length ≤ bs0.length := by rw [List.length_take]; omega
          have l3 : bs0.length ≤ 60 := by omega
          rw [sizeLine_eq]
          omega
        by_cases hin : inSpan n sp z ns = true
        · rw [hin]
          refine iteT ⟨_, rfl, _, eD2, by rw [List.length_map]; exact ll, ?_, ?_, ?_⟩
          · exact (b1.trans b2).put (s1.free hD) eD2
          · rw [upd_ne (ne_of_none upd_same hD)]
            exact ep2
          · rw [upd_same, etk, List.filter_append, List.map_append]
            show _ = some (HO.lst (_ ++ ([z].filter fun b => inSpan n sp b ns).map V.int))
            rw [List.filter_cons_of_pos (by exact hin)]
            rfl
        · rw [Bool.eq_false_iff.mpr hin]
          refine iteF ⟨b1.trans b2, ep2, ?_⟩
          rw [eD2, etk, List.filter_append]
          rw [List.filter_cons_of_neg (by exact hin), List.filter_nil, List.append_nil]
      · rintro H1 ⟨b1, e2, eD⟩
        rw [List.length_map, List.take_length] at eD
        refine ⟨D, _, rfl, b1, eD, ⟨List.Pairwise.filter _ inc, fun b => ?_⟩, s1.free hD⟩
        rw [List.mem_filter]
        exact and_congr_left fun _ => mem2 b
    rintro σ1 H1 ⟨pB, bs, rfl, b1, eB, hB, nB⟩
    obtain ⟨q3, q4, q5⟩ := q2 bs hB H1 b1
    refine ⟨.ref pB, rfl, !(bs.map V.int).isEmpty, .inl ⟨_, SqL.of eB, rfl⟩, ?_⟩
    cases bs with
    | nil => exact iteT (tJs2 (i := 1) (a := "no times lie within ") rfl (by decide +kernel) sms fun _ => q3 rfl)
    | cons b bs =>
      refine iteF ?_
      refine ⟨.ref pB, rfl, pB, _, rfl, .inl (SqL.of eB), _, _, rfl, rfl, _, rfl, ite2 (fun e => ?_) (fun e => ?_)⟩
      · have e3 : (1 : Int) < (((b :: bs).map V.int).length : Nat) := of_decide_eq_true e
        rw [List.length_map] at e3
        exact q4 (by omega)
      · have e3 : ¬ (1 : Int) < (((b :: bs).map V.int).length : Nat) := fun z => e (decide_eq_true z)
        rw [List.length_map] at e3
        have eb : bs = [] := by
          cases bs with
          | nil => rfl
          | cons x r => exact absurd (by simp only [List.length_cons]; omega) e3
        subst eb
        have mb := (hB.mem b).mp List.mem_cons_self
        refine ⟨_, rfl, .ref pB, rfl, pB, _, 0, .int b, rfl, rfl, SqL.of eB, rfl, .ref a, rfl, n, b, a, ns, rfl, hn, hx2 b mb.1, b1.seq tg hS, hx2, hlen, fun H2 p out s2 np e2 rk => ?_⟩
        exact (q2 [b] hB H2 (b1.same s2)).2.2 b rfl p out (b1.free np) e2 rk
end

abbrev sRing : Stmt := topS 21
abbrev NRing : List Str := ["wheel", "seen", "ahead", "places", "first", "second", "third", "one", "other"]
theorem scRing : FnScope NRing ["wheel", "seen"] (defScope sRing) := ⟨rfl, rfl, rfl, by decide +kernel, rfl, by decide +kernel, by decide +kernel⟩
def lcScope : Expr → Scope
  | .ListComp _ _ s _ => s
  | _ => { kind := .function, names := [], isGenerator := false, isCoroutine := false }
abbrev ringOuter : Scope := lcScope (asgV ((defBody sRing).getD 2 (.Pass ⟨0, 0, 0, 0⟩)))
section
variable {P : Program} {w : World} {K : PySem.W.Frag} {mg : Str → Option Value} {base : Heap}
theorem ok_ring {f CW CS : Addr} {fd : FuncData} {k i : Nat} (F : Fun K "ring" "ring" sRing f fd) (DW : Kn P w K mg base (L2.CX P w) i "check_wheel" ["wheel"] (spCheckWheel CW))
    (DR : Kn P w K mg base (L2.CX P w) i "_check_row" ["wheel", "seen"] (spCheckRow K CS)) (DO : Kn P w K mg base (L2.CX P w) i "order" ["wheel", "one", "other"] (spTwo CW CS orderV)) (hi : i ≤ k) (B : Bl mg) :
    FnOk P w K mg base (L2.CX P w) (k + 1) f fd ["wheel", "seen"] (spRing K CW CS) := by
  refine F.okX scRing (fun vs H Q E h => ?_) (fun cdv A outer s H vs Q E hr h => ?_)
  · obtain ⟨n, a, ns, rfl, _⟩ := h
    rfl
  · obtain ⟨n, a, ns, rfl, hS, smn, hlen, smx, e1, e2, q⟩ := h
    have nd := scRing.nd
    have hx := passes_call (X := cxOf (L2.CX P w) P w K mg base NRing "ring" (defScope sRing) f cdv A outer s H E) (E := E) (takes_of (E := E) rfl rfl rfl rfl) (fun _ _ _ _ h => h)
    refine ⟨_, pss_cons (ps_expr (pe_knX DW hr hi hx (pa_cons (pv 0) pa_nil) rfl))
      (pss_cons (ps_expr (pe_knX DR hr hi hx (pa_cons (pv 0) (pa_cons (pv 1) pa_nil)) rfl))
      (C8.pss_cut (ps_setLc (i := 2) (own := [("one", 7)]) (g := gName 7) (by rfl) nd rfl rfl (sw_true rfl rfl rfl (by decide +kernel)) (pi_list (pv 1))
          (blkOk_by (own := [("one", 7)]) (N := NRing) (sc := defScope sRing) (by decide +kernel)) (fun _ _ _ _ _ => pg_name (i := 7) nd rfl (.inr rfl)) (fun _ _ _ _ _ => pts_nil)
          (fun _ _ _ _ _ => pe_lc (wi := iList K (tVar 1)) (own := [("other", 8)]) (g := gName 8) (tt := tYes) (by rfl) nd (pi_list (pv 1)) (blkOk_by (own := [("other", 8)]) (N := NRing) (sc := relS ringOuter (defScope sRing)) (by decide +kernel))
            (fun _ _ _ _ _ => pg_name (i := 8) nd rfl (.inl rfl)) (fun _ _ _ _ _ => pts_nil)
            (fun _ _ _ _ _ => pe_cmpR op_eq (pe_knL DO hr hi (pa_cons (pv 0) (pa_cons (pv 7) (pa_cons (pv 8) pa_nil))) rfl) pe_str (nomark _))))
      (pss_cons (ps_set (i := 3) nd rfl (.inl rfl) (pe_callTy cr_range1 (by rfl) B.rng (by decide +kernel) (pa_cons (pe_callB call_len_seq (by rfl) B.len PySem.boot_len (pa_cons (pv 1) pa_nil)) pa_nil)))
      (pss_cons (ps_for (passes_of rfl) rfl (pi_rngV (pv 3)) (pg_name (i := 4) nd rfl (.inl rfl))
        (pss_one (ps_for (passes_of rfl) rfl (pi_rngV (pv 3)) (pg_name (i := 5) nd rfl (.inl rfl))
          (pss_cons (ps_if (pt_not (pt_val (pe_ix ix_list (pe_ix ix_list (pv 2) (pv 4) (fun _ _ => rfl)) (pv 5) (fun _ _ => rfl)))) (pss_one ps_continue) pss_nil)
          (pss_one (ps_for (passes_of rfl) rfl (pi_rngV (pv 3)) (pg_name (i := 6) nd rfl (.inl rfl))
            (pss_one (ps_if (PW.pt (pw_and (pt_val (pe_ix ix_list (pe_ix ix_list (pv 2) (pv 5) (fun _ _ => rfl)) (pv 6) (fun _ _ => rfl))) (pw_and1 (pt_val (pe_ix ix_list (pe_ix ix_list (pv 2) (pv 6) (fun _ _ => rfl)) (pv 4) (fun _ _ => rfl))))))
              (pss_one (ps_ret (pe_tup (pa_cons (pv 4) (pa_cons (pv 5) (pa_cons (pv 6) pa_nil)))))) pss_nil))))))))
      (pss_one (ps_ret pe_non)))))), ?_⟩
    have s0 : Same H H := .refl _
    refine ⟨_, rfl, n, rfl, smn, fun h1 => ?_, fun z => e1 z _ s0⟩
    refine ⟨_, rfl, _, rfl, n, a, ns, rfl, hS, smn, hlen, smx, fun z => e2 h1 z _ s0, fun hl h2 => ?_⟩
    obtain ⟨q0, qs⟩ := q h1 hl h2
    obtain ⟨n1, n2⟩ := id h1
    -- who is ahead of whom
    refine ⟨fun σ' H' => ∃ (pA : Addr) (rows : List V), σ' = [some (.int n), some (.ref a), some (.ref pA), none, none, none, none, none, none] ∧ Same H H' ∧ H' pA = some (.lst rows) ∧ rows.length = ns.length ∧
      (∀ i, i < ns.length → ∃ r, rows[i]? = some (.ref r) ∧ H' r = some (.lst (ahRow n ns (ns.getD i 0)))), ?_, ?_⟩
    · refine ⟨.ref a, rfl, a, rfl, ⟨_, hS⟩, fun D hD => ?_⟩
      refine lc_list (K := K) (a := a) (xs := ns.map V.int) (fun i H' => Same H H' ∧ ∃ rows : List V, H' D = some (.lst rows) ∧ rows.length = i ∧ (∀ j, j < i → ∃ r, rows[j]? = some (.ref r) ∧ r ≠ D ∧ H' r = some (.lst (ahRow n ns (ns.getD j 0)))))
        ⟨same_new hD, [], upd_same, rfl, fun _ z => absurd z (by omega)⟩ (fun i H' _ h => h.1.seq hS) ?_ ?_
      · rintro i y H1 hi ⟨s1, rows, eD, lr, hrow⟩
        obtain ⟨x, rfl, hz, mz, dz⟩ := at_map hi
        refine ⟨rfl, _, rfl, a, rfl, ⟨_, s1.seq hS⟩, fun D2 hD2 => ?_⟩
        have lz : ns.length < sizeLine := by rw [sizeLine_eq]; omega
        refine lc_list (K := K) (a := a) (xs := ns.map V.int) (fun j H' => Same H1 H' ∧ H' D2 = some (.lst ((ahRow n ns x).take j)))
          ⟨same_new hD2, upd_same⟩ (fun j H' _ h => (s1.trans h.1).seq hS) ?_ ?_
        · rintro j y H2 hj ⟨s2, eD2⟩
          obtain ⟨z, rfl, hz2, mz2, dz2⟩ := at_map hj
          have jl : j < ns.length := (List.getElem?_eq_some_iff.mp hz2).1
          refine ⟨rfl, _, rfl, _, rfl, _, rfl, n, x, z, rfl, smn, smx x mz, smx z mz2, fun w => absurd h1 w, fun _ w => absurd (h2 x mz) w, fun _ _ w => absurd (h2 z mz2) w, fun _ _ _ => ?_⟩
          refine ⟨rfl, _, eD2, ?_, ?_, ?_⟩
          · rw [List.length_take]; omega
          · exact fun b o e => by rw [upd_ne (ne_of_none e hD2)]; exact s2 b o e
          · rw [List.take_add_one]
            have e3 : (ahRow n ns x)[j]?.toList = [.bl (isAh n x z)] := by
              unfold ahRow
              rw [List.getElem?_map, hz2]; rfl
            rw [e3]
            have e4 : decide (orderV n x z = V.str "ahead") = isAh n x z := by
              rw [isAh_ord n1]
              exact decide_eq_decide.mpr ⟨fun w => V.str.inj w, fun w => congrArg V.str w⟩
            rw [← e4]
            exact upd_same
        · rintro H4 ⟨s4, eD4⟩
          have el : (ahRow n ns x).take (ns.map V.int).length = ahRow n ns x := List.take_of_length_le (by unfold ahRow; rw [List.length_map, List.length_map]; exact Nat.le_refl _)
          rw [el] at eD4
          have D2D : D2 ≠ D := fun w => by rw [w, eD] at hD2; cases hD2
          refine ⟨rows, s4 _ _ eD, by rw [lr, sizeLine_eq]; have := (List.getElem?_eq_some_iff.mp hz).1; omega, ?_, _, upd_same, by rw [List.length_append, lr]; rfl, fun j hj => ?_⟩
          · exact fun b o e => by rw [upd_ne (ne_of_none e hD)]; exact s4 _ _ (s1 b o e)
          · by_cases hji : j < i
            · obtain ⟨r, er, rD, hr'⟩ := hrow j hji
              exact ⟨r, by rw [List.getElem?_append_left (by omega)]; exact er, rD, by rw [upd_ne rD]; exact s4 _ _ hr'⟩
            · obtain rfl : j = i := by omega
              refine ⟨D2, ?_, D2D, ?_⟩
              · rw [List.getElem?_append_right (by omega), lr, Nat.sub_self]; rfl
              · rw [upd_ne D2D, dz]; exact eD4
      · rintro H1 ⟨s1, rows, eD, lr, hrow⟩
        rw [List.length_map] at lr hrow
        refine ⟨D, rows, rfl, s1, eD, lr, fun j hj => ?_⟩
        obtain ⟨r, er, _, hr'⟩ := hrow j hj
        exact ⟨r, er, hr'⟩
    rintro σ1 H1 ⟨pA, rows, rfl, s1, eA, lr, hrow⟩
    have hS1 := s1.seq hS
    refine ⟨_, rfl, a, _, rfl, .inl hS1, _, rfl, fun pR hpR => ?_⟩
    have eL : ((ns.map V.int).length : Int) = (ns.length : Int) := by rw [List.length_map]
    rw [eL]
    have s2 := same_new (o := .rng 0 (ns.length : Int)) hpR
    have eR : upd H1 pR (.rng 0 (ns.length : Int)) pR = some (.rng 0 (ns.length : Int)) := upd_same
    generalize upd H1 pR (.rng 0 (ns.length : Int)) = H2 at s2 eR ⊢
    have bnd : -(2 ^ 62) ≤ (0 : Int) ∧ (0 : Int) < 2 ^ 62 ∧ -(2 ^ 62) ≤ (ns.length : Int) ∧ (ns.length : Int) < 2 ^ 62 := ⟨by decide, by decide, by omega, by omega⟩
    have eN : ((ns.length : Int) - 0).toNat = ns.length := by rw [Int.sub_zero]; exact Int.toNat_natCast _
    have row : ∀ i, i < ns.length → ∃ r, atI rows (i : Int) = some (.ref r) ∧ H2 r = some (.lst (ahRow n ns (ns.getD i 0))) := fun i hi => by
      obtain ⟨r, er, hr'⟩ := hrow i hi
      exact ⟨r, atI_nat er, s2 _ _ hr'⟩
    have LA : SqL K H2 pA rows := SqL.of (s2 _ _ eA)
    have s12 := s1.trans s2
    -- the three places
    refine ⟨_, rfl, pR, 0, _, rfl, eR, bnd, ?_⟩
    show ∃ W : Nat → Nat → L2.St → Hp → Prop, _
    rw [eN]
    refine for_range (lo := 0) (n := ns.length) (fun i σ H' => H' = H2 ∧ (∃ y4 y5 y6, σ = [some (.int n), some (.ref a), some (.ref pA), some (.ref pR), y4, y5, y6, none, none]) ∧ ∀ q, q < (i * ns.length + 0) * ns.length + 0 → Rg n ns q = false)
      ⟨rfl, ⟨_, _, _, rfl⟩, fun q z => absurd z (by omega)⟩ ?_ ?_
    · rintro i σ H' hi ⟨rfl, ⟨y4, y5, y6, rfl⟩, bi⟩
      refine ⟨_, rfl, pR, 0, _, rfl, eR, bnd, ?_⟩
      show ∃ W : Nat → Nat → L2.St → Hp → Prop, _
      rw [eN]
      refine for_range (lo := 0) (n := ns.length) (fun j σ H'' => H'' = H' ∧ (∃ y5 y6, σ = [some (.int n), some (.ref a), some (.ref pA), some (.ref pR), some (.int (0 + (i : Int))), y5, y6, none, none]) ∧ ∀ q, q < (i * ns.length + j) * ns.length + 0 → Rg n ns q = false)
        ⟨rfl, ⟨_, _, rfl⟩, bi⟩ ?_ ?_
      · rintro j σ H'' hj ⟨rfl, ⟨y5, y6, rfl⟩, bj⟩
        obtain ⟨r1, er1, hr1⟩ := row i hi
        obtain ⟨r2, er2, hr2⟩ := row j hj
        refine ⟨_, rfl, _, rfl, pA, rows, _, .ref r1, rfl, rfl, LA, by rw [Int.zero_add]; exact er1, _, rfl, r1, _, _, _, rfl, rfl, SqL.of hr1, by rw [Int.zero_add]; exact ahRow_at hj, _, rfl, ?_⟩
        cases h12 : isAh n (ns.getD i 0) (ns.getD j 0) with
        | false =>
          refine iteT ⟨rfl, ⟨_, _, rfl⟩, fun q hq => ?_⟩
          have e5 : (i * ns.length + (j + 1)) * ns.length = (i * ns.length + j) * ns.length + ns.length := by rw [← Nat.add_assoc, Nat.add_mul, Nat.one_mul]
          rw [e5] at hq
          by_cases hq2 : q < (i * ns.length + j) * ns.length + 0
          · exact bj q hq2
          · obtain ⟨k2, rfl⟩ : ∃ k2, q = (i * ns.length + j) * ns.length + k2 := ⟨q - (i * ns.length + j) * ns.length, by omega⟩
            rw [Rg_plc hj (by omega), h12]; rfl
        | true =>
        refine iteF ?_
        refine ⟨_, rfl, pR, 0, _, rfl, eR, bnd, ?_⟩
        show ∃ W : Nat → Nat → L2.St → Hp → Prop, _
        rw [eN]
        refine for_range (lo := 0) (n := ns.length) (fun k2 σ H3 => H3 = H'' ∧ (∃ y6, σ = [some (.int n), some (.ref a), some (.ref pA), some (.ref pR), some (.int (0 + (i : Int))), some (.int (0 + (j : Int))), y6, none, none]) ∧ ∀ q, q < (i * ns.length + j) * ns.length + k2 → Rg n ns q = false)
          ⟨rfl, ⟨_, rfl⟩, bj⟩ ?_ ?_
        · rintro k2 σ H3 hk ⟨rfl, ⟨y6, rfl⟩, bk⟩
          obtain ⟨r3, er3, hr3⟩ := row k2 hk
          have step : Rg n ns ((i * ns.length + j) * ns.length + k2) = false → ∀ q, q < (i * ns.length + j) * ns.length + (k2 + 1) → Rg n ns q = false := fun hf q hq => by
            by_cases hq2 : q < (i * ns.length + j) * ns.length + k2
            · exact bk q hq2
            · obtain rfl : q = (i * ns.length + j) * ns.length + k2 := by omega
              exact hf
          have eR3 := Rg_plc (n := n) (i := i) hj hk
          rw [h12] at eR3
          refine ⟨_, rfl, _, rfl, pA, rows, _, .ref r2, rfl, rfl, LA, by rw [Int.zero_add]; exact er2, _, rfl, r2, _, _, _, rfl, rfl, SqL.of hr2, by rw [Int.zero_add]; exact ahRow_at hk, _, rfl, ?_⟩
          cases h23 : isAh n (ns.getD j 0) (ns.getD k2 0) with
          | false => exact iteF ⟨rfl, ⟨_, rfl⟩, step (by rw [eR3, h23]; rfl)⟩
          | true =>
          refine iteT ?_
          refine ⟨_, rfl, _, rfl, pA, rows, _, .ref r3, rfl, rfl, LA, by rw [Int.zero_add]; exact er3, _, rfl, r3, _, _, _, rfl, rfl, SqL.of hr3, by rw [Int.zero_add]; exact ahRow_at hi, _, rfl, ?_⟩
          cases h31 : isAh n (ns.getD k2 0) (ns.getD i 0) with
          | false => exact iteF ⟨rfl, ⟨_, rfl⟩, step (by rw [eR3, h23, h31]; rfl)⟩
          | true =>
          have hR : Rg n ns ((i * ns.length + j) * ns.length + k2) = true := by rw [eR3, h23, h31]; rfl
          have lt : (i * ns.length + j) * ns.length + k2 < ns.length * ns.length * ns.length := by
            have a1 : (i + 1) * ns.length ≤ ns.length * ns.length := Nat.mul_le_mul_right _ hi
            rw [Nat.add_mul, Nat.one_mul] at a1
            have a2 : (i * ns.length + j + 1) * ns.length ≤ ns.length * ns.length * ns.length := Nat.mul_le_mul_right _ (by omega)
            rw [Nat.add_mul, Nat.one_mul] at a2
            omega
          have ef := firstP_of lt hR bk
          obtain ⟨p1, p2, p3⟩ := plc_div (i := i) hj hk
          refine iteT ⟨_, rfl, _, rfl, _, rfl, by show 3 ≤ sizeLine; decide, fun t ht => qs _ ef _ t (s12.trans (same_new ht)) (s12.free ht) ?_⟩
          unfold threeV
          rw [p1, p2, p3, Int.zero_add, Int.zero_add, Int.zero_add]
          exact upd_same
        · rintro σ H3 ⟨rfl, ⟨y6, rfl⟩, bk⟩
          refine ⟨rfl, ⟨_, _, rfl⟩, fun q hq => bk q ?_⟩
          have e5 : (i * ns.length + (j + 1)) * ns.length = (i * ns.length + j) * ns.length + ns.length := by rw [← Nat.add_assoc, Nat.add_mul, Nat.one_mul]
          omega
      · rintro σ H3 ⟨rfl, ⟨y5, y6, rfl⟩, bj⟩
        refine ⟨rfl, ⟨_, _, _, rfl⟩, fun q hq => bj q ?_⟩
        have e6 : ((i + 1) * ns.length + 0) = i * ns.length + ns.length := by rw [Nat.add_mul, Nat.one_mul]; rfl
        rw [e6] at hq
        exact hq
    · rintro σ H3 ⟨rfl, ⟨y4, y5, y6, rfl⟩, bi⟩
      exact q0 (firstP_no bi) _ s12
end


end K8

namespace K8
open PySem PySem.Spec PyProof.Rows L2 LamX NdefX Lx
abbrev sSeen : Stmt := topS 35
abbrev NSn : List Str := ["_law_state", "_law_wheel_here", "_law_most", "_law_begin", "_law_wide", "_law_times", "_law_k", "_law_time_here"]
theorem scSeen : FnScope NSn ["_law_state", "_law_wheel_here", "_law_most"] (defScope sSeen) := ⟨rfl, rfl, rfl, by decide +kernel, rfl, by decide +kernel, by decide +kernel⟩
section
variable {P : Program} {w : World} {K : PySem.W.Frag} {mg : Str → Option Value} {base : Heap}
theorem ok_seen {f : Addr} {fd : FuncData} {k j : Nat} (F : Fun K "_law_seen" "_law_seen" sSeen f fd) (gr : mg "range" = none) (D : Kn P w K mg base CX0 j "_law_drawn" ["_law_state", "_law_many"] (spDrawn K)) (DTi : Kn P w K mg base CX0 j "_law_time" ["_law_state"] (spTime K)) (hj : j ≤ k) :
    FnOk P w K mg base CX0 (k + 1) f fd ["_law_state", "_law_wheel_here", "_law_most"] (spSeen K) := by
  refine F.ok scSeen (fun vs H Q E h => ?_) (fun cdv A outer s H vs Q E hr h => ?_)
  · obtain ⟨S, n, m, rfl, _⟩ := h
    rfl
  · obtain ⟨S, n, m, rfl, hn, st, m0, m1, q⟩ := h
    have nd := scSeen.nd
    obtain ⟨n1, n2⟩ := id hn
    have drw : ∀ (e : Expr), Expr := fun e => e
    refine ⟨_, pss_cons (ps_set (i := 3) nd rfl (.inr rfl) (pe_kn DTi hr hj (pa_cons (pv 0) pa_nil) rfl))
      (pss_cons (ps_set (i := 4) nd rfl (.inr rfl) (pe_lst (pa_cons (pe_kn D hr hj (pa_cons (pv 0) (pa_cons (pv 1) pa_nil)) rfl) (pa_cons (pe_kn D hr hj (pa_cons (pv 0) (pa_cons (pe_op op_fdiv (pe_op op_add (pv 1) pe_int) pe_int) pa_nil)) rfl) (pa_cons (pe_kn D hr hj (pa_cons (pv 0) (pa_cons pe_int pa_nil)) rfl) pa_nil)))))
      (C8.pss_cut (ps_set (i := 4) nd rfl (.inr rfl) (pe_op op_add pe_int (pe_ix ix_list (pv 4) (pe_kn D hr hj (pa_cons (pv 0) (pa_cons pe_int pa_nil)) rfl) (fun _ _ => rfl))))
      (C8.pss_cut (ps_setLc (i := 5) (own := [("_law_k", 6)]) (g := gName 6) (by rfl) nd rfl rfl (sw_true rfl rfl rfl (by decide +kernel)) (pi_range1 (by rfl) gr (pa_cons (pe_kn D hr hj (pa_cons (pv 0) (pa_cons (pe_op op_add (pv 2) pe_int) pa_nil)) rfl) pa_nil))
          (blkOk_by (own := [("_law_k", 6)]) (N := NSn) (sc := defScope sSeen) (by decide +kernel)) (fun _ _ _ _ _ => pg_name (i := 6) nd rfl (.inl rfl) (.inr rfl)) (fun _ _ _ _ _ => pts_nil)
          (fun _ _ _ _ _ => pe_op op_add (pv 3) (pe_kn D hr hj (pa_cons (pv 0) (pa_cons (pv 4) pa_nil)) rfl)))
      (C8.pss_cut (ps_if (PW.pt (pw_and (pt_cmpR (op_neD hr.units) (pv 5) (pe_lst pa_nil) (nomark _)) (pw_and1 (pt_cmpR op_eq (pe_kn D hr hj (pa_cons (pv 0) (pa_cons pe_int pa_nil)) rfl) pe_int (nomark _)))))
          (pss_one (ps_expr (pe_bm PySem.F.plainAttrs_list PySem.F.slot_list_append PySem.F.type_list_append mt_append (pv 5) (pa_cons (pe_ix ix_list (pv 5) pe_int (fun _ _ => rfl)) pa_nil)))) pss_nil)
      (pss_one (ps_ret (pe_tup (pa_cons (pv 5) (pa_cons (pe_lc (wi := iList K (tVar 5)) (own := [("_law_time_here", 7)]) (g := gName 7) (tt := tYes) (by rfl) nd (pi_list (pv 5)) (blkOk_by (own := [("_law_time_here", 7)]) (N := NSn) (sc := defScope sSeen) (by decide +kernel))
          (fun _ _ _ _ _ => pg_name (i := 7) nd rfl (.inl rfl) (.inr rfl)) (fun _ _ _ _ _ => pts_nil) (fun _ _ _ _ _ => pe_op op_mod (pv 7) (pv 1))) pa_nil)))))))))
      , ?_⟩
    refine ⟨.ref S, rfl, S, rfl, st, fun b H1 hb b1 st1 => ?_⟩
    refine ⟨.ref S, rfl, .int n, rfl, S, n, rfl, st1, by omega, by omega, fun v1 H2 v10 v11 b2 st2 => ?_⟩
    refine ⟨.ref S, rfl, .int n, rfl, _, _, rfl, rfl, _, _, rfl, rfl, ⟨by decide, by decide⟩, S, _, rfl, st2, by omega, by omega, fun v2 H3 v20 v21 b3 st3 => ?_⟩
    refine ⟨.ref S, rfl, S, 3, rfl, st3, by decide, by decide, fun v3 H4 v30 v31 b4 st4 => ⟨by show 3 ≤ sizeLine; decide, fun pw hpw => ?_⟩⟩
    have b5 : But S H (upd H4 pw (.lst [.int v1, .int v2, .int v3])) := (((b1.trans b2).trans b3).trans b4).trans (But.new hpw)
    have st5 := st4.new (o := .lst [.int v1, .int v2, .int v3]) hpw
    have e5 : upd H4 pw (.lst [.int v1, .int v2, .int v3]) pw = some (.lst [.int v1, .int v2, .int v3]) := upd_same
    have nw := st4.nn hpw
    generalize upd H4 pw (.lst [.int v1, .int v2, .int v3]) = H5 at b5 st5 e5 ⊢
    have smb : Tm b := hb
    refine ⟨fun σ' H' => ∃ wd : Int, σ' = [some (.ref S), some (.int n), some (.int m), some (.int b), some (.int wd), none, none, none] ∧ 0 < wd ∧ wd ≤ 1000000000001 ∧ But S H H' ∧ StAt K S H', ?_, ?_⟩
    · refine ⟨.ref pw, rfl, .ref S, rfl, S, 3, rfl, st5, by decide, by decide, fun v H6 v0 v1' b6 st6 => ?_⟩
      obtain ⟨x, ex, hx⟩ := pick3 (a := V.int v1) (b := V.int v2) (c := V.int v3) v0 v1'
      obtain ⟨z, rfl, z0, z1⟩ : ∃ z : Int, x = .int z ∧ 0 ≤ z ∧ z < 1000000000001 := by
        rcases hx with rfl | rfl | rfl <;> exact ⟨_, rfl, by omega, by omega⟩
      exact ⟨pw, _, v, _, rfl, rfl, SqL.of (b6 _ _ nw e5), ex, _, _, rfl, rfl, 1 + z, rfl, by omega, by omega, b5.trans b6, st6⟩
    rintro σ6 H6 ⟨wd, rfl, w0, w1, b6, st6⟩
    clear b1 b2 b3 b4 b5 st1 st2 st3 st4 st5 e5
    -- the times
    refine ⟨fun σ' H' => ∃ (z6 : Option V) (pt : Addr) (ts : List Int), σ' = [some (.ref S), some (.int n), some (.int m), some (.int b), some (.int wd), some (.ref pt), z6, none] ∧ H' pt = some (.lst (ts.map V.int)) ∧ (ts.length : Int) ≤ m ∧ (∀ x ∈ ts, Sm x) ∧ But S H H' ∧ StAt K S H' ∧ H pt = none, ?_, ?_⟩
    · refine ⟨.ref S, rfl, .int m, rfl, _, _, rfl, rfl, S, m + 1, rfl, st6, by omega, by omega, fun many H7 m0' m1' b7 st7 => ?_⟩
      obtain ⟨c, rfl⟩ : ∃ c : Nat, many = c := ⟨many.toNat, by omega⟩
      refine ⟨c, rfl, by omega, by omega, fun D hD => ?_⟩
      have nD : D ≠ S := st7.nn hD
      have hD0 : H D = none := (b6.trans b7).back hD nD
      refine lc_range (lo := 0) (n := c) (fun i H' => ∃ acc : List Int, acc.length = i ∧ H' D = some (.lst (acc.map V.int)) ∧ (∀ x ∈ acc, Sm x) ∧ StAt K S H' ∧ But S H7 H') ⟨[], rfl, upd_same, fun _ z => (nomatch z), st7.new hD, But.new hD⟩ (fun i H' hi hP => ?_) (fun H' hP => ?_)
      · obtain ⟨acc, el, eD, ha, st, bb⟩ := hP
        refine ⟨rfl, .int b, rfl, .ref S, rfl, .int wd, rfl, S, wd, rfl, st, w0, by omega, fun v H8 v0 v1 b8 st8 => ?_⟩
        have bb8 := bb.trans b8
        refine ⟨_, _, rfl, rfl, acc.map V.int, b8 _ _ nD eD, by rw [List.length_map, sizeLine_eq]; omega, acc ++ [b + v], by rw [List.length_append, el]; rfl, by rw [List.map_append]; exact upd_same, fun x hx => ?_, st7.lay hD bb8 st8 nD, bb8.lay hD nD⟩
        rcases List.mem_append.mp hx with h | h
        · exact ha x h
        · rw [List.mem_singleton.mp h]
          exact ⟨by have := smb.1; omega, by have := smb.2; omega⟩
      · obtain ⟨acc, el, eD, ha, st, bb⟩ := hP
        exact ⟨_, D, acc, rfl, eD, by omega, ha, (b6.trans b7).trans bb, st, hD0⟩
    rintro σ7 H7 ⟨z6, pt, ts, rfl, et, lt, smt, b7, st7, npt⟩
    clear b6 st6
    have ptS : pt ≠ S := fun z => by
      obtain ⟨xs, e⟩ := st.is
      rw [z, e] at npt
      cases npt
    -- one of them again
    refine ⟨fun σ' H' => ∃ (ts' : List Int), σ' = [some (.ref S), some (.int n), some (.int m), some (.int b), some (.int wd), some (.ref pt), z6, none] ∧ H' pt = some (.lst (ts'.map V.int)) ∧ (ts'.length : Int) ≤ m + 1 ∧ (∀ x ∈ ts', Sm x) ∧ But S H H' ∧ StAt K S H', ?_, ?_⟩
    · refine ⟨.ref pt, rfl, Nat.zero_le _, fun pn hpn => ?_⟩
      have sN := same_new (o := .lst []) hpn
      refine ne_nil (SqL.of (sN _ _ et)) (SqL.of upd_same) ⟨_, rfl, ?_⟩
      have b8 := b7.trans (But.new (o := .lst []) hpn)
      have st8 := st7.new (o := .lst []) hpn
      have e8 := sN _ _ et
      generalize upd H7 pn (.lst []) = H8 at b8 st8 e8 ⊢
      by_cases hts : ts = []
      · rw [decide_eq_true hts]
        exact iteF (iteF ⟨ts, rfl, e8, by omega, smt, b8, st8⟩)
      · rw [decide_eq_false hts]
        refine iteT ⟨.ref S, rfl, S, 2, rfl, st8, by decide, by decide, fun v H9 v0 v1 b9 st9 => ?_⟩
        have e9 := b9 _ _ ptS e8
        refine ⟨rfl, _, rfl, ?_⟩
        by_cases hv : v = 1
        · have ev : decide (V.int v = V.int 1) = true := decide_eq_true (congrArg V.int hv)
          rw [ev]
          obtain ⟨t0, tr, rfl⟩ : ∃ t0 tr, ts = t0 :: tr := by
            cases ts with
            | nil => exact absurd rfl hts
            | cons a r => exact ⟨a, r, rfl⟩
          refine iteT ⟨.ref pt, rfl, .inl ⟨rfl, _, SqL.of e9⟩, .ref pt, rfl, pt, _, 0, .int t0, rfl, rfl, SqL.of e9, atI_nat (j := 0) rfl, pt, _, .int t0, rfl, rfl, e9, ?_, ?_⟩
          · rw [List.length_map, sizeLine_eq]
            omega
          · refine ⟨(t0 :: tr) ++ [t0], rfl, by rw [upd_same, List.map_append]; rfl, by rw [List.length_append]; simp only [List.length_singleton]; omega, fun x hx => ?_, ?_, ?_⟩
            · rcases List.mem_append.mp hx with h | h
              · exact smt x h
              · rw [List.mem_singleton.mp h]
                exact smt t0 List.mem_cons_self
            · exact (b8.trans b9).lay npt ptS
            · exact st.lay npt (b8.trans b9) st9 ptS
        · have ev : decide (V.int v = V.int 1) = false := decide_eq_false fun z => hv (V.int.inj z)
          rw [ev]
          exact iteF ⟨ts, rfl, e9, by omega, smt, b8.trans b9, st9⟩
    rintro σ8 H8 ⟨ts', rfl, e8, l8, sm8, b8, st8⟩
    refine ⟨.ref pt, rfl, .ref pt, rfl, pt, rfl, ⟨_, SqL.of e8⟩, fun D hD => ?_⟩
    have nD := st8.nn hD
    have eD8 : pt ≠ D := ne_of_none e8 hD
    refine lc_list (K := K) (a := pt) (xs := ts'.map V.int) (fun i H' => Same H8 H' ∧ H' D = some (.lst (((ts'.map (· % n)).map V.int).take i))) ⟨same_new hD, upd_same⟩ (fun i H' _ h => SqL.of (h.1 _ _ e8)) ?_ ?_
    · rintro i y H9 hi ⟨s9, eD⟩
      obtain ⟨z, rfl, hz, mz, dz⟩ := at_map hi
      have il : i < ts'.length := (List.getElem?_eq_some_iff.mp hz).1
      refine ⟨rfl, _, rfl, .int n, rfl, _, _, rfl, rfl, by show (0 : Int) < n; omega, _, eD, ?_, ?_, ?_⟩
      · rw [List.length_take, List.length_map, List.length_map, sizeLine_eq]
        omega
      · exact fun b o e => by
          rw [upd_ne (ne_of_none e hD)]
          exact s9 b o e
      · rw [upd_same, List.take_add_one, List.getElem?_map, List.getElem?_map, hz]
        rfl
    · rintro H9 ⟨s9, eD⟩
      rw [List.take_of_length_le (by rw [List.length_map, List.length_map, List.length_map]; exact Nat.le_refl _)] at eD
      refine ⟨by show 2 ≤ sizeLine; decide, fun p hp => ?_⟩
      have s10 := same_new (o := .tup [.ref pt, .ref D]) hp
      exact q p pt D ts' _ l8 sm8 ((b8.trans (But.of s9)).trans (But.of s10)) ((st8.same s9).same s10) upd_same (s10 _ _ (s9 _ _ e8)) (s10 _ _ eD)
end


end K8

namespace K8
open PySem PySem.Spec PyProof.Rows L2 LamX NdefX Lx
abbrev sKind : Stmt := topS 29
theorem scKind : FnScope ["_law_work", "e", "_law_kinds", "_law_words"] ["_law_work"] (defScope sKind) := ⟨rfl, rfl, rfl, by decide +kernel, rfl, by decide +kernel, by decide +kernel⟩
section
variable {P : Program} {w : World} {K : PySem.W.Frag} {mg : Str → Option Value} {base : Heap}
theorem ok_kind {g CE : Addr} {Cs : _root_.Fin 8 → Addr} {fd : FuncData} {k j : Nat} (F : Fun K "_law_kind" "_law_kind" sKind g fd) (b : Binds K fd ["_law_work"] []) (N : Nine mg CE Cs) (hj : j ≤ k) :
    TakesLam P w K mg base (k + 1) j g (TTK K CE Cs) := by
  refine takesLam_of F b scKind ?_
  intro cdv A outer s H f F eb fr ws sp Q hr L C q
  refine ⟨_, pss_one (ps_try_as (X := (cxOf CX0 P w K mg base ["_law_work", "e", "_law_kinds", "_law_words"] "_law_kind" (defScope sKind) g cdv A outer s H L2.E0).nox) (i := 1) (c := .ref CE)
      (tb := fun W => tRet (tLmCall 0 f F eb (sp ws) W))
      (Wout := fun _ _ _ _ => False)
      (ts := fun a cls d D σ H' => ∃ (D' : Addr) (j : _root_.Fin 8), cls = .ref D' ∧ d = none ∧ Kd K CE Cs D' j ∧ (∃ y0 y2 y3, σ = [y0, some (.ref a), y2, y3]) ∧ ∀ H'', Same H' H'' → D.rt (.str (wds.getD j.val "")) H'')
      rfl rfl scKind.nd rfl rfl ⟨rfl, by decide, .inl N.g⟩ L2.takes0 (fun W pn xe tk _ => ?_) (fun a oe cls d pn hz hf => ?_)), ?_⟩
  · exact pss_one (ps_ret (pe_lmcall (Z := (cxOf CX0 P w K mg base ["_law_work", "e", "_law_kinds", "_law_words"] "_law_kind" (defScope sKind) g cdv A outer s H L2.E0).nox.tr pn xe) (i := 0) (a := "_law_work")
      L (hr.mono hj) C (fun _ _ _ z => nomatch (show _ ∈ ([] : List Addr) from z)) tk rfl (.inl rfl)))
  · refine pss_sem fun D σ H' h' => ?_
    obtain ⟨D', j, rfl, rfl, kd, ⟨y0, y2, y3, rfl⟩, q⟩ := h'
    refine ⟨_, pss_cons (ps_set (i := 2) scKind.nd rfl (.inl rfl) (pe_lst (pa_cons (pe_callB (call_isK hz hf) (by rfl) N.isi (by decide +kernel) (pa_cons (pv 1) (pa_cons (pe_glob (v := .ref (Cs 0)) rfl N.g0 rfl) pa_nil)))
        (pa_cons (pe_callB (call_isK hz hf) (by rfl) N.isi (by decide +kernel) (pa_cons (pv 1) (pa_cons (pe_glob (v := .ref (Cs 1)) rfl N.g1 rfl) pa_nil)))
        (pa_cons (pe_callB (call_isK hz hf) (by rfl) N.isi (by decide +kernel) (pa_cons (pv 1) (pa_cons (pe_glob (v := .ref (Cs 2)) rfl N.g2 rfl) pa_nil)))
        (pa_cons (pe_callB (call_isK hz hf) (by rfl) N.isi (by decide +kernel) (pa_cons (pv 1) (pa_cons (pe_glob (v := .ref (Cs 3)) rfl N.g3 rfl) pa_nil))) pa_nil))))))
      (pss_cons (ps_set (i := 2) scKind.nd rfl (.inl rfl) (pe_op op_cat (pv 2) (pe_lst (pa_cons (pe_callB (call_isK hz hf) (by rfl) N.isi (by decide +kernel) (pa_cons (pv 1) (pa_cons (pe_glob (v := .ref (Cs 4)) rfl N.g4 rfl) pa_nil)))
        (pa_cons (pe_callB (call_isK hz hf) (by rfl) N.isi (by decide +kernel) (pa_cons (pv 1) (pa_cons (pe_glob (v := .ref (Cs 5)) rfl N.g5 rfl) pa_nil)))
        (pa_cons (pe_callB (call_isK hz hf) (by rfl) N.isi (by decide +kernel) (pa_cons (pv 1) (pa_cons (pe_glob (v := .ref (Cs 6)) rfl N.g6 rfl) pa_nil)))
        (pa_cons (pe_callB (call_isK hz hf) (by rfl) N.isi (by decide +kernel) (pa_cons (pv 1) (pa_cons (pe_glob (v := .ref (Cs 7)) rfl N.g7 rfl) pa_nil))) pa_nil)))))))
      (pss_cons (ps_set (i := 3) scKind.nd rfl (.inl rfl) (pe_lst (pa_cons pe_str (pa_cons pe_str (pa_cons pe_str (pa_cons pe_str (pa_cons pe_str (pa_cons pe_str (pa_cons pe_str (pa_cons pe_str pa_nil))))))))))
      (pss_cons (ps_if (PW.pt (pw_or (pt_cmpR op_ne (pe_bm PySem.F.plainAttrs_list PySem.F.slot_list_count PySem.F.type_list_count mt_fcount (pv 2) (pa_cons pe_bl pa_nil)) pe_int (nomark _))
          (pw_or1 (pt_not (pt_val (pe_callB (call_isK hz hf) (by rfl) N.isi (by decide +kernel) (pa_cons (pv 1) (pa_cons (pe_bltn (v := .ty "ValueError") (by rfl) N.ve (by decide +kernel) rfl) pa_nil))))))))
        (pss_one (ps_ret pe_str)) pss_nil)
      (pss_one (ps_ret (pe_ix ix_list (pv 3) (pe_bm PySem.F.plainAttrs_list PySem.F.slot_list_index PySem.F.type_list_index mt_index (pv 2) (pa_cons pe_bl pa_nil)) (fun _ _ => rfl))))))), ?_⟩
    -- kinds
    refine ⟨_, rfl, D', rfl, rfl, kd.c, .ref (Cs 0), .ref (Cs 0), _, rfl, fun _ e => e, kd.i 0, ?_⟩
    refine ⟨_, rfl, D', rfl, rfl, kd.c, .ref (Cs 1), .ref (Cs 1), _, rfl, fun _ e => e, kd.i 1, ?_⟩
    refine ⟨_, rfl, D', rfl, rfl, kd.c, .ref (Cs 2), .ref (Cs 2), _, rfl, fun _ e => e, kd.i 2, ?_⟩
    refine ⟨_, rfl, D', rfl, rfl, kd.c, .ref (Cs 3), .ref (Cs 3), _, rfl, fun _ e => e, kd.i 3, ?_⟩
    refine ⟨by show 4 ≤ sizeLine; decide, fun p1 h1 => ?_⟩
    have s1 := same_new (o := .lst [.bl (decide (j = 0)), .bl (decide (j = 1)), .bl (decide (j = 2)), .bl (decide (j = 3))]) h1
    refine ⟨.ref p1, rfl, ?_⟩
    refine ⟨_, rfl, D', rfl, rfl, kd.c, .ref (Cs 4), .ref (Cs 4), _, rfl, fun _ e => e, kd.i 4, ?_⟩
    refine ⟨_, rfl, D', rfl, rfl, kd.c, .ref (Cs 5), .ref (Cs 5), _, rfl, fun _ e => e, kd.i 5, ?_⟩
    refine ⟨_, rfl, D', rfl, rfl, kd.c, .ref (Cs 6), .ref (Cs 6), _, rfl, fun _ e => e, kd.i 6, ?_⟩
    refine ⟨_, rfl, D', rfl, rfl, kd.c, .ref (Cs 7), .ref (Cs 7), _, rfl, fun _ e => e, kd.i 7, ?_⟩
    refine ⟨by show 4 ≤ sizeLine; decide, fun p2 h2 => ?_⟩
    have s2 := same_new (o := .lst [.bl (decide (j = 4)), .bl (decide (j = 5)), .bl (decide (j = 6)), .bl (decide (j = 7))]) h2
    refine ⟨p1, p2, _, _, rfl, rfl, s2 _ _ upd_same, upd_same, by show 4 + 4 ≤ sizeLine; decide, fun p3 h3 => ?_⟩
    have s3 := same_new (o := .lst (bits j)) h3
    refine ⟨by show 8 ≤ sizeLine; decide, fun p4 h4 => ?_⟩
    have s4 := same_new (o := .lst (wds.map V.str)) h4
    have e3 := s4 _ _ (upd_same (H := _) (a := p3) (o := .lst (bits j)))
    have L3 := SqL.of (K := K) e3
    refine ⟨.ref p3, rfl, .inl ⟨rfl, _, L3⟩, p3, _, .bl true, rfl, rfl, L3, rfl, bits_flat j, ?_⟩
    refine ⟨rfl, _, rfl, ?_⟩
    rw [bits_count j]
    refine iteNS rfl ?_
    refine ⟨_, rfl, D', rfl, rfl, kd.c, .ty "ValueError", .type "ValueError", _, rfl, fun _ e => e, kd.v, _, rfl, iteF ?_⟩
    refine ⟨.ref p4, rfl, .ref p3, rfl, .inl ⟨rfl, _, L3⟩, p3, _, .bl true, j.val, .bl true, rfl, rfl, L3, rfl, bits_flat j, bits_at j, rfl, fun m z hm ez => ?_, ?_⟩
    · have e := bits_no j ⟨m, by omega⟩ hm
      rw [ez] at e
      cases e
      rfl
    · exact ⟨p4, _, _, _, rfl, rfl, SqL.of upd_same, wds_at j, q _ (((s1.trans s2).trans s3).trans s4)⟩
  · have z := q (WE (wAs K (.ref CE) 1 (fun a cls d D σ H' => ∃ (D' : Addr) (j : _root_.Fin 8), cls = .ref D' ∧ d = none ∧ Kd K CE Cs D' j ∧ (∃ y0 y2 y3, σ = [y0, some (.ref a), y2, y3]) ∧ ∀ H'', Same H' H'' → D.rt (.str (wds.getD j.val "")) H'') (fun _ _ _ _ => False)
        { nx := fun _ H' => Q .non H', rt := Q }) [some (.ref f), none, none, none]) (fun D j H' kd h => ?_)
    · obtain ⟨h1, h2, h3⟩ := z
      exact ⟨rfl, h1, h2, h3⟩
    · exact ⟨true, kd.x, fun _ a _ => ⟨D, j, rfl, rfl, kd, ⟨_, _, _, rfl⟩, h⟩, fun z => nomatch z⟩
end

abbrev sFar : Stmt := topS 30
theorem scFar : FnScope ["_law_state", "_law_least", "_law_most", "_law_far_here"] ["_law_state", "_law_least", "_law_most"] (defScope sFar) := ⟨rfl, rfl, rfl, by decide +kernel, rfl, by decide +kernel, by decide +kernel⟩
section
variable {P : Program} {w : World} {K : PySem.W.Frag} {mg : Str → Option Value} {base : Heap}
theorem ok_far {f : Addr} {fd : FuncData} {k j : Nat} (F : Fun K "_law_far" "_law_far" sFar f fd) (D : Kn P w K mg base CX0 j "_law_drawn" ["_law_state", "_law_many"] (spDrawn K)) (hj : j ≤ k) :
    FnOk P w K mg base CX0 (k + 1) f fd ["_law_state", "_law_least", "_law_most"] (spFar K) := by
  refine F.ok scFar (fun vs H Q E h => ?_) (fun cdv A outer s H vs Q E hr h => ?_)
  · obtain ⟨S, a, b, rfl, _⟩ := h
    rfl
  · obtain ⟨S, a, b, rfl, st, a0, a1, b0, b1, q⟩ := h
    refine ⟨_, pss_cons (ps_set (i := 3) scFar.nd rfl (.inl rfl) (pe_ix ix_list (pe_lst (pa_cons pe_int (pa_cons pe_int (pa_cons (pe_op op_pow pe_int pe_int) pa_nil)))) (pe_kn D hr hj (pa_cons (pv 0) (pa_cons pe_int pa_nil)) rfl) (fun _ _ => rfl)))
      (pss_one (ps_ret (pe_ix ix_list (pe_lst (pa_cons (pe_op op_sub (pe_op op_sub (pv 1) pe_int) (pe_kn D hr hj (pa_cons (pv 0) (pa_cons (pv 3) pa_nil)) rfl))
        (pa_cons (pe_op op_add (pe_op op_add (pv 2) pe_int) (pe_kn D hr hj (pa_cons (pv 0) (pa_cons (pv 3) pa_nil)) rfl)) pa_nil))) (pe_kn D hr hj (pa_cons (pv 0) (pa_cons pe_int pa_nil)) rfl) (fun _ _ => rfl)))), ?_⟩
    refine ⟨10, 29, rfl, rfl, ⟨by decide, by decide, by decide⟩, by show 3 ≤ sizeLine; decide, fun p hp => ?_⟩
    refine ⟨.ref S, rfl, S, 3, rfl, st.new hp, by decide, by decide, fun v H1 v0 v1 bt st1 => ?_⟩
    obtain ⟨x, ex, hx⟩ := pick3 (a := V.int 1) (b := V.int 20) (c := V.int ((10 : Int) ^ (29 : Int).toNat)) v0 v1
    obtain ⟨z, rfl, z0, z1⟩ : ∃ z : Int, x = .int z ∧ 0 < z ∧ z ≤ 100000000000000000000000000000 := by
      rcases hx with rfl | rfl | rfl
      · exact ⟨_, rfl, by decide, by decide⟩
      · exact ⟨_, rfl, by decide, by decide⟩
      · exact ⟨_, rfl, by decide, by decide⟩
    have pS : p ≠ S := st.nn hp
    refine ⟨p, _, v, _, rfl, rfl, SqL.of (bt _ _ pS upd_same), ex, ?_⟩
    have b1' : But S H H1 := (But.new hp).trans bt
    -- least - 1 - drawn, most + 1 + drawn
    refine ⟨.int a, rfl, _, _, rfl, rfl, .ref S, rfl, .int z, rfl, S, z, rfl, st1, z0, by omega, fun d1 H2 d10 d11 bt2 st2 => ?_⟩
    refine ⟨_, _, rfl, rfl, .int b, rfl, _, _, rfl, rfl, .ref S, rfl, .int z, rfl, S, z, rfl, st2, z0, by omega, fun d2 H3 d20 d21 bt3 st3 => ?_⟩
    refine ⟨_, _, rfl, rfl, by show 2 ≤ sizeLine; decide, fun p2 hp2 => ?_⟩
    refine ⟨.ref S, rfl, S, 2, rfl, st3.new hp2, by decide, by decide, fun v2 H4 v20 v21 bt4 st4 => ?_⟩
    obtain ⟨y, ey, hy⟩ := pick2 (a := V.int (a - 1 - d1)) (b := V.int (b + 1 + d2)) v20 v21
    have b4 : But S H H4 := ((b1'.trans bt2).trans bt3).trans ((But.new hp2).trans bt4)
    have pS2 : p2 ≠ S := st3.nn hp2
    refine ⟨p2, _, v2, y, rfl, rfl, SqL.of (bt4 _ _ pS2 upd_same), ey, ?_⟩
    rcases hy with rfl | rfl
    · exact q _ _ (.inl (by omega)) ⟨by omega, by omega⟩ b4 st4
    · exact q _ _ (.inr (by omega)) ⟨by omega, by omega⟩ b4 st4
end

abbrev sSame : Stmt := topS 28
theorem scSame : FnScope ["_law_found", "_law_due_here", "_law_k"] ["_law_found", "_law_due_here"] (defScope sSame) := ⟨rfl, rfl, rfl, by decide +kernel, rfl, by decide +kernel, by decide +kernel⟩
section
variable {P : Program} {w : World} {K : PySem.W.Frag} {mg : Str → Option Value} {base : Heap}
theorem ok_same {f : Addr} {fd : FuncData} {k j : Nat} {sp : Sp} (F : Fun K "_law_same" "_law_same" sSame f fd) (B : Bl mg) (D : Kn P w K mg base CX0 j "_law_same" ["_law_found", "_law_due_here"] sp) (hj : j ≤ k) :
    FnOk P w K mg base CX0 (k + 1) f fd ["_law_found", "_law_due_here"] (spSame sp) := by
  refine F.ok scSame (fun vs H Q E h => ?_) (fun cdv A outer s H vs Q E hr h => ?_)
  · obtain ⟨x, y, rfl, _⟩ := h
    rfl
  · obtain ⟨x, y, rfl, q, h⟩ := h
    have nd := scSame.nd
    refine ⟨_, pss_cons (ps_if (pt_val (pe_callB call_isiT (by rfl) B.isi (by decide +kernel) (pa_cons (pv 1) (pa_cons (pe_tup (pa_cons (pe_bltn (v := .ty "tuple") (by rfl) B.tup (by decide +kernel) rfl) (pa_cons (pe_bltn (v := .ty "list") (by rfl) B.lst (by decide +kernel) rfl) pa_nil))) pa_nil))))
        (pss_cons (ps_if (PW.pt (pw_or (pt_not (pt_val (pe_callB call_isiT (by rfl) B.isi (by decide +kernel) (pa_cons (pv 0) (pa_cons (pe_tup (pa_cons (pe_bltn (v := .ty "tuple") (by rfl) B.tup (by decide +kernel) rfl) (pa_cons (pe_bltn (v := .ty "list") (by rfl) B.lst (by decide +kernel) rfl) pa_nil))) pa_nil)))))
            (pw_or1 (pt_cmpR op_ne (pe_callB call_isi (by rfl) B.isi (by decide +kernel) (pa_cons (pv 0) (pa_cons (pe_bltn (v := .ty "list") (by rfl) B.lst (by decide +kernel) rfl) pa_nil)))
              (pe_callB call_isi (by rfl) B.isi (by decide +kernel) (pa_cons (pv 1) (pa_cons (pe_bltn (v := .ty "list") (by rfl) B.lst (by decide +kernel) rfl) pa_nil))) (nomark _)))))
          (pss_one (ps_ret pe_bl)) pss_nil)
        (pss_cons (ps_if (pt_cmpR op_ne (pe_callB call_len_seq (by rfl) B.len PySem.boot_len (pa_cons (pv 0) pa_nil)) (pe_callB call_len_seq (by rfl) B.len PySem.boot_len (pa_cons (pv 1) pa_nil)) (nomark _))
          (pss_one (ps_ret pe_bl)) pss_nil)
        (pss_one (ps_ret (pe_cmpR (op_eqD hr.units) (pe_lc (own := [("_law_k", 2)]) (g := gName 2) (by rfl) nd
          (pi_range1 (by rfl) B.rng (pa_cons (pe_callB call_len_seq (by rfl) B.len PySem.boot_len (pa_cons (pv 1) pa_nil)) pa_nil))
          (blkOk_by (own := [("_law_k", 2)]) (N := ["_law_found", "_law_due_here", "_law_k"]) (sc := defScope sSame) (by decide +kernel))
          (fun _ _ _ _ _ => pg_name (i := 2) nd rfl (.inl rfl))
          (fun _ _ _ _ _ => pts_one (pt_not (pt_val (pe_kn D hr hj (pa_cons (pe_ix (r := rIx K) ix_seq (pv 0) (pv 2) (fun _ _ => rfl)) (pa_cons (pe_ix (r := rIx K) ix_seq (pv 1) (pv 2) (fun _ _ => rfl)) pa_nil)) rfl))))
          (fun _ _ _ _ _ => pv 2)) (pe_lst pa_nil) (nomark _)))))) pss_nil)
      (pss_cons (ps_if (pt_cmpR op_isN (pv 1) pe_non (nomark _)) (pss_one (ps_ret (pe_cmpR op_isN (pv 0) pe_non (nomark _)))) pss_nil)
      (pss_cons (ps_if (pt_val (pe_callB call_isi (by rfl) B.isi (by decide +kernel) (pa_cons (pv 1) (pa_cons (pe_bltn (v := .ty "str") (by rfl) B.str (by decide +kernel) rfl) pa_nil))))
        (pss_one (ps_ret (pe_and (pe_callB call_isi (by rfl) B.isi (by decide +kernel) (pa_cons (pv 0) (pa_cons (pe_bltn (v := .ty "str") (by rfl) B.str (by decide +kernel) rfl) pa_nil))) (pe_one (pe_cmpR op_eq (pv 0) (pv 1) (nomark _)))))) pss_nil)
      (pss_cons (ps_if (PW.pt (pw_or (pt_val (pe_callB call_isi (by rfl) B.isi (by decide +kernel) (pa_cons (pv 1) (pa_cons (pe_bltn (v := .ty "bool") (by rfl) B.bool (by decide +kernel) rfl) pa_nil))))
          (pw_or1 (pt_val (pe_callB call_isi (by rfl) B.isi (by decide +kernel) (pa_cons (pv 0) (pa_cons (pe_bltn (v := .ty "bool") (by rfl) B.bool (by decide +kernel) rfl) pa_nil)))))))
        (pss_one (ps_ret (pe_and (pe_callB call_isi (by rfl) B.isi (by decide +kernel) (pa_cons (pv 1) (pa_cons (pe_bltn (v := .ty "bool") (by rfl) B.bool (by decide +kernel) rfl) pa_nil)))
          (pe_and (pe_callB call_isi (by rfl) B.isi (by decide +kernel) (pa_cons (pv 0) (pa_cons (pe_bltn (v := .ty "bool") (by rfl) B.bool (by decide +kernel) rfl) pa_nil))) (pe_one (pe_cmpR op_eq (pv 0) (pv 1) (nomark _))))))) pss_nil)
      (pss_one (ps_ret (pe_and (pe_callB call_isi (by rfl) B.isi (by decide +kernel) (pa_cons (pv 0) (pa_cons (pe_bltn (v := .ty "int") (by rfl) B.int (by decide +kernel) rfl) pa_nil))) (pe_one (pe_cmpR op_eq (pv 0) (pv 1) (nomark _))))))))), ?_⟩
    rcases h with ⟨rfl, hf⟩ | ⟨b, a, c, xs, ys, rfl, rfl, hx, hy, hl, hz, it⟩
    · -- flat
      refine ⟨x, rfl, by show 2 ≤ sizeLine; decide, fun p hp => ?_⟩
      have fin := q _ (same_new (o := .tup [.ty "tuple", .ty "list"]) hp)
      cases x with
      | non =>
        refine ⟨.non, p, _, .type "NoneType", _, false, rfl, upd_same, .cons (.ty "tuple") (.cons (.ty "list") .nil), .base .non, any_no (by decide +kernel) (by decide +kernel), _, rfl, iteF ?_⟩
        exact ⟨_, rfl, rfl, _, rfl, ite2 (fun _ => ⟨_, rfl, rfl, fin⟩) (fun z => absurd rfl z)⟩
      | bl t =>
        refine ⟨.bl t, p, _, .type "bool", _, false, rfl, upd_same, .cons (.ty "tuple") (.cons (.ty "list") .nil), .base (.bl t), any_no (by decide +kernel) (by decide +kernel), _, rfl, iteF ?_⟩
        refine ⟨_, rfl, rfl, _, rfl, ite2 (fun z => absurd z (by simp)) (fun _ => ?_)⟩
        refine ⟨_, rfl, .bl t, .ty "str", .type "bool", .type "str", false, rfl, .ty "str", .base (.bl t), kit_ty (by decide +kernel), _, rfl, iteF ?_⟩
        refine ⟨_, rfl, .bl t, .ty "bool", .type "bool", .type "bool", true, rfl, .ty "bool", .base (.bl t), kit_ty (by decide +kernel), _, rfl, iteT (iteT ?_)⟩
        refine ⟨_, rfl, .bl t, .ty "bool", .type "bool", .type "bool", true, rfl, .ty "bool", .base (.bl t), kit_ty (by decide +kernel), _, rfl, iteT ?_⟩
        refine ⟨_, rfl, .bl t, .ty "bool", .type "bool", .type "bool", true, rfl, .ty "bool", .base (.bl t), kit_ty (by decide +kernel), _, rfl, iteT ?_⟩
        refine ⟨_, rfl, _, rfl, rfl, ?_⟩
        rw [decide_eq_true rfl]
        exact fin
      | int t =>
        refine ⟨.int t, p, _, .type "int", _, false, rfl, upd_same, .cons (.ty "tuple") (.cons (.ty "list") .nil), .base (.int t), any_no (by decide +kernel) (by decide +kernel), _, rfl, iteF ?_⟩
        refine ⟨_, rfl, rfl, _, rfl, ite2 (fun z => absurd z (by simp)) (fun _ => ?_)⟩
        refine ⟨_, rfl, .int t, .ty "str", .type "int", .type "str", false, rfl, .ty "str", .base (.int t), kit_ty (by decide +kernel), _, rfl, iteF ?_⟩
        refine ⟨_, rfl, .int t, .ty "bool", .type "int", .type "bool", false, rfl, .ty "bool", .base (.int t), kit_ty (by decide +kernel), _, rfl, iteF ?_⟩
        refine ⟨_, rfl, .int t, .ty "bool", .type "int", .type "bool", false, rfl, .ty "bool", .base (.int t), kit_ty (by decide +kernel), _, rfl, iteF ?_⟩
        refine ⟨_, rfl, .int t, .ty "int", .type "int", .type "int", true, rfl, .ty "int", .base (.int t), kit_ty (by decide +kernel), _, rfl, iteT ?_⟩
        refine ⟨_, rfl, _, rfl, rfl, ?_⟩
        rw [decide_eq_true rfl]
        exact fin
      | str t =>
        refine ⟨.str t, p, _, .type "str", _, false, rfl, upd_same, .cons (.ty "tuple") (.cons (.ty "list") .nil), .base (.str t), any_no (by decide +kernel) (by decide +kernel), _, rfl, iteF ?_⟩
        refine ⟨_, rfl, rfl, _, rfl, ite2 (fun z => absurd z (by simp)) (fun _ => ?_)⟩
        refine ⟨_, rfl, .str t, .ty "str", .type "str", .type "str", true, rfl, .ty "str", .base (.str t), kit_ty (by decide +kernel), _, rfl, iteT ?_⟩
        refine ⟨_, rfl, .str t, .ty "str", .type "str", .type "str", true, rfl, .ty "str", .base (.str t), kit_ty (by decide +kernel), _, rfl, iteT ?_⟩
        refine ⟨_, rfl, _, rfl, rfl, ?_⟩
        rw [decide_eq_true rfl]
        exact fin
      | byt _ => cases hf
      | flt _ => cases hf
      | ref _ => cases hf
      | ty _ => cases hf
    · -- lists, tuples
      refine ⟨_, rfl, by show 2 ≤ sizeLine; decide, fun p hp => ?_⟩
      have s1 := same_new (o := .tup [.ty "tuple", .ty "list"]) hp
      refine ⟨.ref c, p, _, .type (kn b), _, true, rfl, upd_same, .cons (.ty "tuple") (.cons (.ty "list") .nil), mk_ty (s1 _ _ hy), mk_any, _, rfl, iteT ?_⟩
      refine ⟨_, rfl, by show 2 ≤ sizeLine; decide, fun p2 hp2 => ?_⟩
      have s2 := same_new (o := .tup [.ty "tuple", .ty "list"]) hp2
      generalize hH2 : upd (upd H p (.tup [.ty "tuple", .ty "list"])) p2 (.tup [.ty "tuple", .ty "list"]) = H2 at s2
      have s12 := s1.trans s2
      have hx2 := s12 _ _ hx
      have hy2 := s12 _ _ hy
      refine ⟨.ref a, p2, _, .type (kn b), _, true, rfl, (by rw [← hH2]; exact upd_same), .cons (.ty "tuple") (.cons (.ty "list") .nil), mk_ty hx2, mk_any, _, rfl, iteF ?_⟩
      refine ⟨_, rfl, .ref a, .ty "list", .type (kn b), .type "list", b, rfl, .ty "list", mk_ty hx2, mk_one, _, rfl, .ref c, .ty "list", .type (kn b), .type "list", b, rfl, .ty "list", mk_ty hy2, mk_one, rfl, _, rfl, ?_⟩
      refine iteNS rfl ?_
      refine ⟨_, rfl, a, xs, rfl, mk_sq hx2, _, rfl, c, ys, rfl, mk_sq hy2, rfl, _, rfl, iteNS (by rw [hl]) ?_⟩
      refine ⟨_, rfl, c, ys, rfl, mk_sq hy2, (ys.length : Int), rfl, by omega, by omega, fun D hD => ?_⟩
      refine lc_range (lo := 0) (n := ys.length) (fun i H' => Same H2 H' ∧ H' D = some (.lst [])) ⟨same_new hD, upd_same⟩ (fun i H' hi hP => ?_) (fun H' hP => ?_)
      · obtain ⟨sm, eD⟩ := hP
        have hi' : i < xs.length := by omega
        have ax : atI xs ((0 : Int) + i) = some xs[i] := by rw [Int.zero_add]; exact atI_nat (List.getElem?_eq_getElem hi')
        have ay : atI ys ((0 : Int) + i) = some ys[i] := by rw [Int.zero_add]; exact atI_nat (List.getElem?_eq_getElem hi)
        refine ⟨rfl, .ref a, rfl, _, rfl, mk_ix (sm _ _ hx2) ax ⟨.ref c, rfl, _, rfl, mk_ix (sm _ _ hy2) ay ?_⟩⟩
        refine it i _ _ (List.getElem?_eq_getElem hi') (List.getElem?_eq_getElem hi) H' _ (s12.trans sm) fun H'' sm2 => ?_
        exact ⟨_, rfl, iteF ⟨sm.trans sm2, sm2 _ _ eD⟩⟩
      · obtain ⟨sm, eD⟩ := hP
        refine ⟨Nat.zero_le _, fun p3 hp3 => ?_⟩
        have s3 := same_new (o := .lst []) hp3
        refine ⟨.list [], .list [], .lst (SqL.of (s3 _ _ eD)) .nil, .lst (SqL.of upd_same) .nil, rfl, rfl, ?_⟩
        rw [show PyData.eqv (.list []) (.list []) = true from rfl]
        exact q _ ((s12.trans sm).trans s3)
end


end K8

namespace K8
open PySem PySem.Spec PyProof.Rows L2 LamX NdefX Lx
abbrev sDue : Stmt := topS 36
abbrev NDu : List Str := ["_law_wheel_here", "_law_span", "_law_seen_here", "_law_some", "_law_begin", "_law_far_here", "_law_other"]
theorem scDue : FnScope NDu ["_law_wheel_here", "_law_span", "_law_seen_here"] (defScope sDue) := ⟨rfl, rfl, rfl, by decide +kernel, rfl, by decide +kernel, by decide +kernel⟩
def ifB : Stmt → List Stmt
  | .If _ b _ _ => b
  | _ => []
def kwE : Expr → Expr
  | .Call _ _ [⟨_, e, _⟩] _ => e
  | e => e
abbrev duFor : List Stmt := forBody ((defBody sDue).getD 1 (.Pass ⟨0, 0, 0, 0⟩))
abbrev lamD : Expr := kwE (asgV ((ifB (duFor.getD 1 (.Pass ⟨0, 0, 0, 0⟩))).getD 0 (.Pass ⟨0, 0, 0, 0⟩)))
theorem lkD : (lamS lamD).kind = .function ∧ (lamS lamD).isCoroutine = false ∧ (lamS lamD).isGenerator = false ∧ (∀ y ∈ (lamS lamD).names, y.2 ≠ .cell) ∧ (lamS lamD).names.lookup ("_law_k" : Str) = some .local ∧ (lamS lamD).names.lookup ("_law_far_here" : Str) = some .free ∧
  (∀ z ∈ (lamS lamD).names, z.2 = .free → (defScope sDue).names.lookup z.1 = some .cell) := ⟨rfl, rfl, rfl, by decide +kernel, by decide +kernel, by decide +kernel, by decide +kernel⟩
abbrev lqD : Str := ("_law_due" : Str) ++ ".<locals>." ++ "<lambda>"
section
variable {P : Program} {w : World} {K : PySem.W.Frag} {mg : Str → Option Value} {base : Heap}
abbrev XD (P : Program) (w : World) (K : PySem.W.Frag) (mg : Str → Option Value) (base : Heap) (f c : Addr) (A : Around) (outer : List Env) (s : Shared) (H : Hp) (E : XK) : Cx :=
  (cxOf CX0 P w K mg base NDu "_law_due" (defScope sDue) f (.ref c) A outer s H E).nox
theorem ok_due {f c P2 : Addr} {T : List (Addr × Str)} {k : Nat} {oc kV doc pm ct : Value} {od an : Option Addr} {osl : Array (Option Value)}
    (lk : K.lookup f = some ⟨oc, od, .func (PySem.W.fnOf "_law_due" "_law_due" (defArgs sDue) (defBody sDue) (defScope sDue) .none kV doc pm an (.ref c) ct), osl⟩) (hcd : PySem.W.codeIn K (.ref c) "_law_due" = true) (TB : LamX.TabB base mg c P2)
    (hT : (P2, lqD) ∈ T) (hU : ∀ p ∈ T, p.1 = P2 → p.2 = lqD) (B : Bl mg) (gmx : mg "max" = none) (gso : mg "sorted" = none) :
    FnOk P w K mg base CX0 (k + 1) f (PySem.W.fnOf "_law_due" "_law_due" (defArgs sDue) (defBody sDue) (defScope sDue) .none kV doc pm an (.ref c) ct) ["_law_wheel_here", "_law_span", "_law_seen_here"] (spDue K P2 T) := by
  refine fn_of lk hcd scDue (fun vs H Q E h => ?_) fun A outer s H vs Q E hr h => ?_
  · obtain ⟨n, sp, a, ns, bs, rfl, _⟩ := h
    rfl
  obtain ⟨n, sp, a, ns, bs, rfl, hS, hn, hx, hl, hB, tb, q⟩ := h
  have nd := scDue.nd
  have hm : (P2, (XD P w K mg base f c A outer s H E).env.qual ++ "<lambda>") ∈ T := hT
  have hu : ∀ p ∈ T, p.1 = P2 → p.2 = (XD P w K mg base f c A outer s H E).env.qual ++ "<lambda>" := hU
  suffices h : ∃ t, PSs (XD P w K mg base f c A outer s H E) (defBody sDue) t ∧ t { nx := fun _ H' => Q .non H', rt := Q } (start NDu [.int n, .int sp, .ref a]) H by
    obtain ⟨t, h1, h2⟩ := h
    exact ⟨t, h1.nox, h2⟩
  obtain ⟨l1, l2, l3, l4, l5, l6, l7⟩ := lkD
  have hu2 := hr.units
  refine ⟨_, pss_cons (ps_set (i := 3) nd rfl (.inl rfl) pe_dnewK)
    (C8.pss_cut (ps_for PassesOwn.never rfl (pi_list (pv 2)) (pg_name (i := 4) nd rfl (.inr rfl))
      (C8.pss_cut (ps_set (i := 5) nd rfl (.inr rfl) (pe_lc (wi := iList K (tVar 2)) (own := [("_law_other", 6)]) (g := gName 6) (tt := tYes) (by rfl) nd (pi_list (pv 2)) (blkOk_by (own := [("_law_other", 6)]) (N := NDu) (sc := defScope sDue) (by decide +kernel))
          (fun _ _ _ _ _ => pg_name (i := 6) nd rfl (.inl rfl) (.inr rfl)) (fun _ _ _ _ _ => pts_nil) (fun _ _ _ _ _ => pe_op op_mod (pe_op op_sub (pv 6) (pv 4)) (pv 0))))
      (pss_one (ps_if (pt_cmpR op_le (pe_callB (cr_max rfl) (by rfl) gmx (by rfl) (pa_cons (pv 5) pa_nil)) (pv 1) (nomark _))
          (pss_one (ps_dput (Nat.lt_of_le_of_lt (Nat.add_le_add_left (by decide : 1 ≤ 64) _) hr.units) (pv 3) (pv 4) (Qz.pe_sortK (i := 5) (x := "_law_k") (y := "_law_far_here") hr (by rfl) gso TB rfl hm hu (pe_listRg rfl (by rfl) B.lst (prg_1 (by rfl) B.rng (pe_callB call_len_seq (by rfl) B.len PySem.boot_len (pa_cons (pv 2) pa_nil)))) rfl rfl l1 l2 l3 l4 l5 l6 l7 (fun _ _ _ _ _ => rfl)) rfl)) pss_nil))))
    (pss_cons (ps_if (PW.pt (pw_or (pt_cmpR (op_eqD hr.units) (pv 2) (pe_lst pa_nil) (nomark _)) (pw_or1 (pt_cmpR op_gt (pe_callB call_lenD (by rfl) B.len PySem.boot_len (pa_cons (pv 3) pa_nil)) pe_int (nomark _)))))
        (pss_one (ps_ret (pe_ifExp (pt_cmpR (op_eqD hr.units) (pv 2) (pe_lst pa_nil) (nomark _)) (pe_lst pa_nil) pe_non))) pss_nil)
    (pss_one (ps_ret (pe_ifExp (pt_cmpR (Qz.op_neEmp (Nat.lt_of_le_of_lt (Nat.le_add_right _ 64) hr.units)) (pv 3) pe_dnewK (nomark _)) (pe_ix ix_list (Qz.pe_vlst rfl (pv 3) (by rfl) B.lst) pe_int (fun _ _ => rfl)) pe_str))))), ?_⟩
  refine fun d hd => ?_
  have sD := same_new (o := HO.dK []) hd
  have eD0 : upd H d (.dK []) d = some (.dK []) := upd_same
  have x0 : ExtN H (upd H d (.dK [])) := .of sD
  have t0 := tb.ext sD
  have o0 : ∀ b ps, b ≠ P2 → H b = some (.tbl ps) → upd H d (.dK []) b = some (.tbl ps) := fun b ps _ e => sD _ _ e
  generalize upd H d (.dK []) = H1 at eD0 x0 t0 o0 ⊢
  -- gathered
  refine ⟨fun σ' H' => ∃ (z4 z5 z6 : Option V) (kvs : List (Key × V)), σ' = [some (.int n), some (.int sp), some (.ref a), some (.ref d), z4, z5, z6] ∧ ExtN H H' ∧ Tabs T H' ∧ (∀ b ps, b ≠ P2 → H b = some (.tbl ps) → H' b = some (.tbl ps)) ∧ H' d = some (.dK kvs) ∧ Gath H' n sp ns ns.length kvs, ?_, ?_⟩
  · refine ⟨.ref a, rfl, a, rfl, ⟨_, Qz.sql_ext x0 hS⟩, ?_⟩
    refine for_list (K := K) (a := a) (xs := ns.map V.int) (fun j σ H' => ∃ (z4 z5 z6 : Option V) (kvs : List (Key × V)), σ = [some (.int n), some (.int sp), some (.ref a), some (.ref d), z4, z5, z6] ∧ ExtN H H' ∧ Tabs T H' ∧ (∀ b ps, b ≠ P2 → H b = some (.tbl ps) → H' b = some (.tbl ps)) ∧ H' d = some (.dK kvs) ∧ kvs.length ≤ j ∧ Gath H' n sp ns j kvs)
      ⟨_, _, _, [], rfl, x0, t0, o0, eD0, Nat.le_refl _, .none_⟩ (fun i σ H' _ hP => ?_) (fun j x σ H2 hj hP => ?_) (fun σ H' hP => ?_)
    · obtain ⟨_, _, _, _, _, x, _⟩ := hP
      exact Qz.sql_ext x hS
    rotate_left
    · obtain ⟨z4, z5, z6, kvs, e, x, tb', o', ed, _, g⟩ := hP
      rw [List.length_map] at g
      exact ⟨z4, z5, z6, kvs, e, x, tb', o', ed, g⟩
    obtain ⟨z4, z5, z6, kvs, rfl, x2, t2, o2, ed2, kl, g2⟩ := hP
    obtain ⟨b, rfl, hb, mb, db⟩ := at_map hj
    -- how far
    refine ⟨fun σ' H' => ∃ (pf : Addr) (z6 : Option V), σ' = [some (.int n), some (.int sp), some (.ref a), some (.ref d), some (.int b), some (.ref pf), z6] ∧ Same H2 H' ∧ H' pf = some (.lst ((ns.map fun y => (y - b) % n).map V.int)), ?_, ?_⟩
    · refine ⟨.ref a, rfl, a, rfl, ⟨_, Qz.sql_ext x2 hS⟩, fun D hD => ?_⟩
      refine lc_list (K := K) (a := a) (xs := ns.map V.int) (fun i H' => Same H2 H' ∧ H' D = some (.lst (((ns.map fun y => (y - b) % n).map V.int).take i))) ⟨same_new hD, upd_same⟩ (fun i H' _ h => h.1.seq (Qz.sql_ext x2 hS)) ?_ ?_
      · rintro i y H9 hi ⟨s9, eD⟩
        obtain ⟨z, rfl, hz, mz, dz⟩ := at_map hi
        have il : i < ns.length := (List.getElem?_eq_some_iff.mp hz).1
        refine ⟨rfl, _, rfl, _, rfl, _, _, rfl, rfl, .int n, rfl, _, _, rfl, rfl, by have := hn.1; show (0 : Int) < n; omega, _, eD, ?_, ?_, ?_⟩
        · rw [List.length_take, List.length_map, List.length_map, sizeLine_eq]
          omega
        · exact fun b o e => by
            rw [upd_ne (ne_of_none e hD)]
            exact s9 b o e
        · rw [upd_same, List.take_add_one, List.getElem?_map, List.getElem?_map, hz]
          rfl
      · rintro H9 ⟨s9, eD⟩
        rw [List.take_of_length_le (by rw [List.length_map, List.length_map, List.length_map]; exact Nat.le_refl _)] at eD
        exact ⟨_, _, rfl, s9, eD⟩
    rintro σ3 H3 ⟨pf, z6, rfl, s3, ef⟩
    have x3 := x2.trans (.of s3)
    have t3 := t2.ext s3
    have g3 := g2.ext (.of s3)
    have ed3 := s3 _ _ ed2
    have nl : 0 < (ns.map fun y => (y - b) % n).length := by rw [List.length_map]; exact List.length_pos_of_mem mb
    refine ⟨.ref pf, rfl, pf, _, rfl, SqL.of ef, nl, fun M hM hmax => ⟨.int sp, rfl, _, _, rfl, rfl, _, rfl, ite2 (fun e => ?_) (fun e => ?_)⟩⟩
    rotate_left
    · have no : inSpan n sp b ns = false := Bool.eq_false_iff.mpr fun z => e (by
        obtain ⟨y, hy, rfl⟩ := List.mem_map.mp hM
        have := List.all_eq_true.mp z y hy
        exact this)
      exact ⟨_, _, _, kvs, rfl, x3, t3, fun b ps hb e => s3 _ _ (o2 b ps hb e), ed3, by omega, g3.skip hb no⟩
    · have Ms : M ≤ sp := of_decide_eq_true e
      have yes : inSpan n sp b ns = true := List.all_eq_true.mpr fun y hy => decide_eq_true (Int.le_trans (hmax _ (List.mem_map_of_mem hy)) Ms)
      refine ⟨.ref a, rfl, a, _, rfl, .inl (Qz.sql_ext x3 hS), _, rfl, RgOk.of_le (by decide) (by rw [List.length_map]; omega) (by decide) (by omega), fun pr hpr => ?_⟩
      have sR := same_new (o := .lst (rgV 0 ((ns.map V.int).length : Int))) hpr
      refine ⟨pr, uptoI ns.length, pf, ns.map fun y => (y - b) % n, rfl, ?_, rfl, SqL.of (sR _ _ ef), fun x hx => by rw [List.length_map]; exact mem_upto hx, by rw [List.length_map]; omega, by rw [len_upto]; omega, t3.ext sR, fun H4 pd x4 t4 o4 e4 => ?_⟩
      · refine SqL.of ?_
        rw [upd_same, List.length_map, rgV_upto]
      have xR := (ExtN.of sR).trans x4
      have ed4 : H4 d = some (.dK kvs) := xR _ _ ed3 (fun _ z => nomatch z)
      refine ⟨.ref d, rfl, .int b, rfl, d, _, rfl, DPut.k (k := Sum.inl b) ed4 (by rw [sizeLine_eq]; have := (List.getElem?_eq_some_iff.mp hb).1; omega), ?_⟩
      have R := sorted_ranked (ns.map fun y => (y - b) % n)
      rw [List.length_map] at R
      have R2 : Ranked (farW n b ns) ns.length _ := R.congr (g := farW n b ns) fun i hi => by
        unfold farW
        rw [List.getD_eq_getElem?_getD, List.getElem?_map, List.getD_eq_getElem?_getD, List.getElem?_eq_getElem hi]
        rfl
      have at_ : PlaceAt H4 n ns b (.ref pd) := ⟨pd, _, rfl, by
        rw [e4, List.map_map]
        refine congrArg (fun l => some (HO.lst l)) (List.map_congr_left fun x hx => ?_)
        have := mem_upto ((List.mergeSort_perm _ _).mem_iff.mp hx)
        show V.int x = V.int (x.toNat : Int)
        rw [Int.toNat_of_nonneg this.1], R2⟩
      have g4 := (g3.ext xR).put hb yes at_
      have nP : ∀ ps, H d ≠ some (.tbl ps) := fun ps z => by rw [hd] at z; cases z
      refine ⟨_, _, _, _, rfl, fun b' o e n => ?_, ?_, fun b' ps hb' e => ?_, upd_same, by have := length_putK kvs (Sum.inl b) (V.ref pd); omega, ?_⟩
      · rw [upd_ne (fun z => by rw [z, hd] at e; cases e)]
        exact (x3.trans xR) b' o e n
      · exact tabs_dk (t4) ed4
      · rw [upd_ne (fun z => by rw [z] at e; exact nP ps e)]
        exact o4 b' ps hb' (sR _ _ (s3 _ _ (o2 b' ps hb' e)))
      · exact g4.dk ed4
  rintro σ2 H2 ⟨z4, z5, z6, kvs, rfl, x2, t2, o2, ed, g⟩
  obtain ⟨qn, qs⟩ := q H2 x2 t2 o2
  -- told
  have k2 : ∀ {H'}, Same H2 H' → ExtN H H' ∧ Tabs T H' ∧ (∀ b ps, b ≠ P2 → H b = some (.tbl ps) → H' b = some (.tbl ps)) := fun s => ⟨x2.trans (.of s), t2.ext s, fun b ps hb e => s _ _ (o2 b ps hb e)⟩
  refine ⟨.ref a, rfl, Nat.zero_le _, fun pn hpn => ?_⟩
  have s3 := same_new (o := .lst []) hpn
  have e3 : upd H2 pn (.lst []) pn = some (.lst []) := upd_same
  generalize upd H2 pn (.lst []) = H3 at s3 e3 ⊢
  refine eq_nil (ns := ns) (Qz.sql_ext (x2.trans (.of s3)) hS) (SqL.of e3) ⟨_, rfl, ?_⟩
  by_cases hns : ns = []
  · rw [decide_eq_true hns]
    refine iteT (iteT ⟨.ref a, rfl, Nat.zero_le _, fun pm hpm => ?_⟩)
    have s4 := s3.trans (same_new (o := .lst []) hpm)
    have e4 : upd H3 pm (.lst []) pm = some (.lst []) := upd_same
    generalize upd H3 pm (.lst []) = H4 at s4 e4 ⊢
    refine eq_nil (ns := ns) (Qz.sql_ext (x2.trans (.of s4)) hS) (SqL.of e4) ⟨_, rfl, ?_⟩
    rw [decide_eq_true hns]
    refine iteT ⟨Nat.zero_le _, fun pr hpr => ?_⟩
    obtain ⟨x5, t5, o5⟩ := k2 (s4.trans (same_new (o := .lst []) hpr))
    exact (q _ x5 t5 o5).1 hns pr upd_same
  · rw [decide_eq_false hns]
    have B := hB hns
    have el := g.len B
    refine iteF ⟨.ref d, rfl, d, kvs, rfl, s3 _ _ ed, _, _, rfl, rfl, _, rfl, ite2 (fun e => ?_) (fun e => ?_)⟩
    · have l1 : 1 < bs.length := by
        have := of_decide_eq_true e
        omega
      refine ⟨.ref a, rfl, Nat.zero_le _, fun pm hpm => ?_⟩
      have s4 := s3.trans (same_new (o := .lst []) hpm)
      have e4 : upd H3 pm (.lst []) pm = some (.lst []) := upd_same
      generalize upd H3 pm (.lst []) = H4 at s4 e4 ⊢
      refine eq_nil (ns := ns) (Qz.sql_ext (x2.trans (.of s4)) hS) (SqL.of e4) ⟨_, rfl, ?_⟩
      rw [decide_eq_false hns]
      obtain ⟨x5, t5, o5⟩ := k2 s4
      exact iteF (((q _ x5 t5 o5).2 hns).2.1 l1)
    · have l1 : ¬ 1 < bs.length := fun z => e (decide_eq_true (by omega))
      refine ⟨.ref d, rfl, fun pm hpm => ?_⟩
      have s4 := s3.trans (same_new (o := .dK []) hpm)
      have e4 : upd H3 pm (.dK []) pm = some (.dK []) := upd_same
      generalize upd H3 pm (.dK []) = H4 at s4 e4 ⊢
      refine ⟨d, pm, kvs, rfl, rfl, s4 _ _ ed, e4, _, rfl, ?_⟩
      match bs, B, el, l1 with
      | [], B, el, _ =>
        obtain rfl : kvs = [] := List.length_eq_zero_iff.mp el
        obtain ⟨x5, t5, o5⟩ := k2 s4
        exact iteF ((((q _ x5 t5 o5).2 hns).1 rfl))
      | [b], B, el, _ =>
        obtain ⟨v, rfl, pv⟩ := g.one B
        refine iteT ⟨.ref d, rfl, d, _, rfl, s4 _ _ ed, fun pl hpl => ?_⟩
        obtain ⟨x5, t5, o5⟩ := k2 (s4.trans (same_new (o := .lst ([((Sum.inl b : Key), v)].map Prod.snd)) hpl))
        refine ⟨pl, _, 0, v, rfl, rfl, SqL.of upd_same, rfl, ?_⟩
        exact ((q _ x5 t5 o5).2 hns).2.2 b rfl v (pv.ext (.of (s4.trans (same_new hpl))))
      | _ :: _ :: _, _, _, l1 => exact absurd (by simp) l1
end


end K8

namespace K8
open PySem PySem.Spec PyProof.Rows L2 LamX NdefX Lx
abbrev sLaw : Stmt := topS 37
abbrev NL : List Str := ["_law_script", "_law_state", "_law_turn", "_law_times", "_law_seen_here", "_law_wide", "_law_again", "_law_found", "_law_at", "_law_bad", "_law_handed", "_law_odd", "_law_span", "_law_wheel_here"]
theorem scLaw : FnScope NL ["_law_script"] (defScope sLaw) := ⟨rfl, rfl, rfl, by decide +kernel, rfl, by decide +kernel, by decide +kernel⟩
def ifL : Stmt → Expr
  | .If (.Compare l _ _ _) _ _ _ => l
  | _ => .Name "" ⟨0, 0, 0, 0⟩
abbrev lBody : List Stmt := forBody ((defBody sLaw).getD 1 (.Pass ⟨0, 0, 0, 0⟩))
abbrev lSt (i : Nat) : Stmt := lBody.getD i (.Pass ⟨0, 0, 0, 0⟩)
abbrev aSt (i : Nat) : Stmt := (forBody (lSt 5)).getD i (.Pass ⟨0, 0, 0, 0⟩)
abbrev lam1 : Expr := callArg 0 (asgV (aSt 0))
abbrev lam2 : Expr := callArg 0 (ifL (lSt 9))
abbrev lam3 : Expr := callArg 0 (ifL (lSt 10))
abbrev lam4 : Expr := callArg 0 (ifL (lSt 11))
abbrev fr1 : List Str := ["_law_handed", "_law_span", "_law_wheel_here"]
abbrev fr2 : List Str := ["_law_bad", "_law_odd", "_law_wheel_here"]
abbrev fr3 : List Str := ["_law_bad", "_law_span", "_law_wheel_here"]
abbrev fr4 : List Str := ["_law_bad", "_law_wheel_here"]
theorem ns1 : nscB fr1 [] fr1 (lamS lam1) = true := by decide +kernel
theorem nd1 : ndefB (defScope sLaw) (lamS lam1) fr1 = true := by decide +kernel
theorem ls1 : lamSB (defScope sLaw) (lamS lam1) = true := by decide +kernel
theorem ns2 : nscB fr2 [] fr2 (lamS lam2) = true := by decide +kernel
theorem nd2 : ndefB (defScope sLaw) (lamS lam2) fr2 = true := by decide +kernel
theorem ls2 : lamSB (defScope sLaw) (lamS lam2) = true := by decide +kernel
theorem ns3 : nscB fr3 [] fr3 (lamS lam3) = true := by decide +kernel
theorem nd3 : ndefB (defScope sLaw) (lamS lam3) fr3 = true := by decide +kernel
theorem ls3 : lamSB (defScope sLaw) (lamS lam3) = true := by decide +kernel
theorem ns4 : nscB fr4 [] fr4 (lamS lam4) = true := by decide +kernel
theorem nd4 : ndefB (defScope sLaw) (lamS lam4) fr4 = true := by decide +kernel
theorem ls4 : lamSB (defScope sLaw) (lamS lam4) = true := by decide +kernel
def spThree (sp : Sp) : List (Option V) → Hp → VK → XK → Prop := fun ws H Q E => ∃ se sn wh : V, ws = [some se, some sn, some wh] ∧ sp [wh, sn, se] H Q E
def spPair (sp : Sp) : List (Option V) → Hp → VK → XK → Prop := fun ws H Q E => ∃ se wh : V, ws = [some se, some wh] ∧ sp [wh, se] H Q E
abbrev lq : Str := ("law" : Str) ++ ".<locals>." ++ "<lambda>"
abbrev TT (P0 P2 : Addr) : List (Addr × Str) := [(P0, lq), (P2, lqD)]
def spLaw (K : PySem.W.Frag) (P0 P1 P2 : Addr) : Sp := fun vs H Q _ => ∃ (a : Addr) (ns : List Int), vs = [.ref a] ∧ SqL K H a (ns.map V.int) ∧ Tabs (TT P0 P2) H ∧ GxR.TabG H P1 ∧ ∀ H', Q (.bl true) H'
/-- what arranged told -/
def FoundAt (H : Hp) (n sp : Int) (ns bs : List Int) (v : V) : Prop :=
  (ns = [] ∧ ∃ p, v = .ref p ∧ H p = some (.lst [])) ∨ (ns ≠ [] ∧ ((bs = [] ∧ v = .str "NoSpan") ∨ (1 < bs.length ∧ v = .non) ∨ ∃ b, bs = [b] ∧ PlaceAt H n ns b v))
theorem FoundAt.ext {H H' : Hp} {n sp : Int} {ns bs : List Int} {v : V} (h : FoundAt H n sp ns bs v) (x : ExtN H H') : FoundAt H' n sp ns bs v := by
  rcases h with ⟨e, p, e1, e2⟩ | ⟨e, h⟩
  · exact .inl ⟨e, p, e1, x _ _ e2 (fun _ z => nomatch z)⟩
  · rcases h with h | h | ⟨b, e1, e2⟩
    · exact .inr ⟨e, .inl h⟩
    · exact .inr ⟨e, .inr (.inl h)⟩
    · exact .inr ⟨e, .inr (.inr ⟨b, e1, e2.ext x⟩)⟩
theorem FoundAt.list {H : Hp} {n sp : Int} {ns bs : List Int} {v : V} (h : FoundAt H n sp ns bs v) : v = .str "NoSpan" ∨ v = .non ∨ ∃ (p : Addr) (xs : List V), v = .ref p ∧ H p = some (.lst xs) ∧ xs.length ≤ ns.length := by
  rcases h with ⟨e, p, e1, e2⟩ | ⟨e, ⟨_, h⟩ | ⟨_, h⟩ | ⟨b, e1, p, out, e2, e3, r⟩⟩
  · exact .inr (.inr ⟨p, _, e1, e2, Nat.zero_le _⟩)
  · exact .inl h
  · exact .inr (.inl h)
  · refine .inr (.inr ⟨p, _, e2, e3, ?_⟩)
    have := r.perm.length_eq
    rw [List.length_range] at this
    rw [List.length_map]
    omega
theorem tabs_butT {P1 : Addr} {T : List (Addr × Str)} {H H' : Hp} (n : ∀ p ∈ T, p.1 ≠ P1) (t : Tabs T H) (tg : GxR.TabG H P1) (b : ButP P1 H H') : Tabs T H' := fun p hp => by
  obtain ⟨ps, a1, a2, a3⟩ := t p hp
  refine ⟨ps, b.2 _ _ (n p hp) a1, a2, fun pos cv hc => ?_⟩
  obtain ⟨c, e1, e2⟩ := a3 pos cv hc
  exact ⟨c, e1, b.ext tg _ _ e2 codeO_ne⟩
theorem tabG_lst {P1 p : Addr} {H : Hp} {xs : List V} {o : HO} (t : GxR.TabG H P1) (e : H p = some (.lst xs)) : GxR.TabG (upd H p o) P1 := by
  obtain ⟨ps, h, t⟩ := t
  exact ⟨ps, by rw [upd_ne (fun z => by rw [z, e] at h; cases h)]; exact h, t⟩
/-- a list that wasn't there is written -/
theorem st_app {K : PySem.W.Frag} {S p : Addr} {G H : Hp} {o : HO} (g : StAt K S G) (n : G p = none) (x : ExtN G H) : StAt K S (upd H p o) := by
  obtain ⟨a, ns, i, m, r, e, q, rest⟩ := g
  have ne : S ≠ p := fun z => by rw [z, n] at e; cases e
  refine ⟨a, ns, i, m, r, by rw [upd_ne ne]; exact x _ _ e (fun _ z => nomatch z), ?_, rest⟩
  rcases q with (q | ⟨o', q⟩) | q
  · exact .inl (.inl (by rw [upd_ne (fun z => by rw [z, n] at q; cases q)]; exact x _ _ q (fun _ z => nomatch z)))
  · exact .inl (.inr ⟨o', by rw [upd_ne (fun z => by rw [z, n] at q; cases q)]; exact x _ _ q (fun _ z => nomatch z)⟩)
  · exact .inr q
def cutI (ns : List Int) (lo hi : Option Int) : List Int := (ns.drop (HT.sIx ns.length 0 lo)).take (HT.sIx ns.length ns.length hi - HT.sIx ns.length 0 lo)
theorem cut_ints (ns : List Int) (lo hi : Option Int) : cutV (ns.map V.int) lo hi = (cutI ns lo hi).map V.int := by
  unfold cutV cutI
  rw [List.length_map, List.map_take, List.map_drop]
theorem cutI_mem {ns : List Int} {lo hi : Option Int} {x : Int} (h : x ∈ cutI ns lo hi) : x ∈ ns := List.mem_of_mem_drop (List.mem_of_mem_take h)
theorem cutI_len (ns : List Int) (lo hi : Option Int) : (cutI ns lo hi).length ≤ ns.length := by
  unfold cutI
  rw [List.length_take, List.length_drop]
  omega
theorem noughts (k : Nat) : (List.replicate k [V.int 0]).flatten = (List.replicate k (0 : Int)).map V.int := by
  induction k with
  | zero => rfl
  | succ k ih => rw [List.replicate_succ, List.flatten_cons, ih, List.replicate_succ]; rfl
section
variable {P : Program} {w : World} {K : PySem.W.Frag} {mg : Str → Option Value} {base : Heap}
theorem ok_lam1 {CW CS CP CN P1 : Addr} {k j : Nat} {f : Addr} {F : NF} (D : Kn P w K mg base (L2.CX P w) j "arranged" ["wheel", "span", "seen"] (spArr K CW CS CP CN P1)) (hj : j ≤ k) (hs : F.scope = lamS lam1) (hp : F.params = lamP lam1) :
    LOk P w K mg base (L2.CX P w) (k + 1) f F (lamB lam1) fr1 (spThree (spArr K CW CS CP CN P1)) := by
  obtain ⟨name, q, params, bd, scope, cl, c⟩ := F
  obtain rfl : scope = lamS lam1 := hs
  obtain rfl : params = lamP lam1 := hp
  refine lok_of (N := fr1) (nscope_by ns1) (fun _ _ => rfl) (fun A outer s H ws Q E hr hf hc hl h => ?_)
  obtain ⟨x1, x2, x3, rfl, h⟩ := h
  have hx := passes_call (X := ncx (L2.CX P w) P w K mg base fr1 ⟨name, q, lamP lam1, bd, lamS lam1, cl, c⟩ f A outer s H E) (E := E) (takes_of (E := E) rfl rfl rfl rfl) (fun _ _ _ _ h => h)
  exact ⟨_, pe_knX D hr hj hx (pa_cons (pv 2) (pa_cons (pv 1) (pa_cons (pv 0) pa_nil))) rfl, _, rfl, _, rfl, _, rfl, h⟩
theorem ok_lam2 {CW CS CP CN P1 : Addr} {k j : Nat} {f : Addr} {F : NF} (D : Kn P w K mg base (L2.CX P w) j "arranged" ["wheel", "span", "seen"] (spArr K CW CS CP CN P1)) (hj : j ≤ k) (hs : F.scope = lamS lam2) (hp : F.params = lamP lam2) :
    LOk P w K mg base (L2.CX P w) (k + 1) f F (lamB lam2) fr2 (spThree (spArr K CW CS CP CN P1)) := by
  obtain ⟨name, q, params, bd, scope, cl, c⟩ := F
  obtain rfl : scope = lamS lam2 := hs
  obtain rfl : params = lamP lam2 := hp
  refine lok_of (N := fr2) (nscope_by ns2) (fun _ _ => rfl) (fun A outer s H ws Q E hr hf hc hl h => ?_)
  obtain ⟨x1, x2, x3, rfl, h⟩ := h
  have hx := passes_call (X := ncx (L2.CX P w) P w K mg base fr2 ⟨name, q, lamP lam2, bd, lamS lam2, cl, c⟩ f A outer s H E) (E := E) (takes_of (E := E) rfl rfl rfl rfl) (fun _ _ _ _ h => h)
  exact ⟨_, pe_knX D hr hj hx (pa_cons (pv 2) (pa_cons (pv 1) (pa_cons (pv 0) pa_nil))) rfl, _, rfl, _, rfl, _, rfl, h⟩
theorem ok_lam3 {CW CS CP CN P1 : Addr} {k j : Nat} {f : Addr} {F : NF} (D : Kn P w K mg base (L2.CX P w) j "arranged" ["wheel", "span", "seen"] (spArr K CW CS CP CN P1)) (hj : j ≤ k) (hs : F.scope = lamS lam3) (hp : F.params = lamP lam3) :
    LOk P w K mg base (L2.CX P w) (k + 1) f F (lamB lam3) fr3 (spThree (spArr K CW CS CP CN P1)) := by
  obtain ⟨name, q, params, bd, scope, cl, c⟩ := F
  obtain rfl : scope = lamS lam3 := hs
  obtain rfl : params = lamP lam3 := hp
  refine lok_of (N := fr3) (nscope_by ns3) (fun _ _ => rfl) (fun A outer s H ws Q E hr hf hc hl h => ?_)
  obtain ⟨x1, x2, x3, rfl, h⟩ := h
  have hx := passes_call (X := ncx (L2.CX P w) P w K mg base fr3 ⟨name, q, lamP lam3, bd, lamS lam3, cl, c⟩ f A outer s H E) (E := E) (takes_of (E := E) rfl rfl rfl rfl) (fun _ _ _ _ h => h)
  exact ⟨_, pe_knX D hr hj hx (pa_cons (pv 2) (pa_cons (pv 1) (pa_cons (pv 0) pa_nil))) rfl, _, rfl, _, rfl, _, rfl, h⟩
theorem ok_lam4 {CW CS : Addr} {k j : Nat} {f : Addr} {F : NF} (D : Kn P w K mg base (L2.CX P w) j "ring" ["wheel", "seen"] (spRing K CW CS)) (hj : j ≤ k) (hs : F.scope = lamS lam4) (hp : F.params = lamP lam4) :
    LOk P w K mg base (L2.CX P w) (k + 1) f F (lamB lam4) fr4 (spPair (spRing K CW CS)) := by
  obtain ⟨name, q, params, bd, scope, cl, c⟩ := F
  obtain rfl : scope = lamS lam4 := hs
  obtain rfl : params = lamP lam4 := hp
  refine lok_of (N := fr4) (nscope_by ns4) (fun _ _ => rfl) (fun A outer s H ws Q E hr hf hc hl h => ?_)
  obtain ⟨x1, x2, rfl, h⟩ := h
  have hx := passes_call (X := ncx (L2.CX P w) P w K mg base fr4 ⟨name, q, lamP lam4, bd, lamS lam4, cl, c⟩ f A outer s H E) (E := E) (takes_of (E := E) rfl rfl rfl rfl) (fun _ _ _ _ h => h)
  exact ⟨_, pe_knX D hr hj hx (pa_cons (pv 1) (pa_cons (pv 0) pa_nil)) rfl, _, rfl, _, rfl, h⟩
abbrev XL (P : Program) (w : World) (K : PySem.W.Frag) (mg : Str → Option Value) (base : Heap) (f c : Addr) (A : Around) (outer : List Env) (s : Shared) (H : Hp) (E : XK) : Cx :=
  (cxOf CX0 P w K mg base NL "law" (defScope sLaw) f (.ref c) A outer s H E).nox
theorem ok_law {f c P0 P1 P2 g CE CW CS CP CN : Addr} {Cs : _root_.Fin 8 → Addr} {oc kV doc pm ct : Value} {od an : Option Addr} {osl : Array (Option Value)}
    (lk : K.lookup f = some ⟨oc, od, .func (PySem.W.fnOf "law" "law" (defArgs sLaw) (defBody sLaw) (defScope sLaw) .none kV doc pm an (.ref c) ct), osl⟩) (hcd : PySem.W.codeIn K (.ref c) "law" = true) (TB : LamX.TabB base mg c P0) (n01 : P0 ≠ P1) (n21 : P2 ≠ P1) (n20 : P2 ≠ P0) (B : Bl mg) (gmx : mg "max" = none) (gmn : mg "min" = none)
    (DStart : Kn P w K mg base CX0 1 "_law_start" ["_law_script"] (spStart K)) (DDrawn : Kn P w K mg base CX0 1 "_law_drawn" ["_law_state", "_law_many"] (spDrawn K))
    (DWheel : Kn P w K mg base CX0 2 "_law_wheel" ["_law_state"] (spWheel K)) (DSeen : Kn P w K mg base CX0 3 "_law_seen" ["_law_state", "_law_wheel_here", "_law_most"] (spSeen K))
    (DSame : Kn P w K mg base CX0 2 "_law_same" ["_law_found", "_law_due_here"] spSame1) (DFar : Kn P w K mg base CX0 2 "_law_far" ["_law_state", "_law_least", "_law_most"] (spFar K)) (DDue : Kn P w K mg base CX0 4 "_law_due" ["_law_wheel_here", "_law_span", "_law_seen_here"] (spDue K P2 (TT P0 P2)))
    (DArr : Kn P w K mg base (L2.CX P w) 6 "arranged" ["wheel", "span", "seen"] (spArr K CW CS CP CN P1)) (DRing : Kn P w K mg base (L2.CX P w) 5 "ring" ["wheel", "seen"] (spRing K CW CS))
    (G : TakesLam P w K mg base 8 7 g (TTK K CE Cs)) (gk : mg "_law_kind" = some (.ref g)) (kk : PySem.W.keepIn K (.ref g) = true) (kdS : Kd K CE Cs CS 2) (kdP : Kd K CE Cs CP 4) (kdN : Kd K CE Cs CN 7) :
    FnOk P w K mg base CX0 9 f (PySem.W.fnOf "law" "law" (defArgs sLaw) (defBody sLaw) (defScope sLaw) .none kV doc pm an (.ref c) ct) ["_law_script"] (spLaw K P0 P1 P2) := by
  refine fn_of lk hcd scLaw (fun vs H Q E h => ?_) fun A outer s H vs Q E hr h => ?_
  · obtain ⟨a, ns, rfl, _⟩ := h
    rfl
  obtain ⟨a, ns0, rfl, hS, tb, tg, q⟩ := h
  have nd := scLaw.nd
  have nT : ∀ p ∈ TT P0 P2, p.1 ≠ P1 := fun p hp => by
    rcases List.mem_cons.mp hp with h | h
    · rw [h]; exact n01
    · rw [List.mem_singleton.mp h]; exact n21
  have hm : (P0, (XL P w K mg base f c A outer s H E).env.qual ++ "<lambda>") ∈ TT P0 P2 := List.mem_cons_self
  have hu : ∀ p ∈ TT P0 P2, p.1 = P0 → p.2 = (XL P w K mg base f c A outer s H E).env.qual ++ "<lambda>" := fun p hp e => by
    rcases List.mem_cons.mp hp with h | h
    · rw [h]; rfl
    · rw [List.mem_singleton.mp h] at e; exact absurd e n20
  suffices h : ∃ t, PSs (XL P w K mg base f c A outer s H E) (defBody sLaw) t ∧ t { nx := fun _ H' => Q .non H', rt := Q } (start NL [.ref a]) H by
    obtain ⟨t, h1, h2⟩ := h
    exact ⟨t, h1.nox, h2⟩
  refine ⟨_, pss_cons (ps_set (i := 1) nd rfl (.inl rfl) (pe_kn DStart hr (by decide) (pa_cons (pv 0) pa_nil) rfl))
    (pss_cons (ps_for PassesOwn.never rfl (pi_range1 (by rfl) B.rng (pa_cons pe_int pa_nil)) (pg_name (i := 2) nd rfl (.inl rfl))
      (pss_cons (ps_set (i := 13) nd rfl (.inr rfl) (pe_kn DWheel hr (by decide) (pa_cons (pv 1) pa_nil) rfl))
      (pss_cons (ps_asg (pe_kn DSeen hr (by decide) (pa_cons (pv 1) (pa_cons (pv 13) (pa_cons (pe_ix ix_list (pe_lst (pa_cons pe_int (pa_cons pe_int (pa_cons pe_int (pa_cons pe_int pa_nil))))) (pe_kn DDrawn hr (by decide) (pa_cons (pv 1) (pa_cons pe_int pa_nil)) rfl) (fun _ _ => rfl)) pa_nil))) rfl) (pg_tup (by rfl) (pgs_cons (pg_name (i := 3) nd rfl (.inl rfl)) (pgs_cons (pg_name (i := 4) nd rfl (.inl rfl)) pgs_nil))))
      (C8.pss_cut (ps_set (i := 5) nd rfl (.inl rfl) (pe_ifExp (pt_cmpR (op_neD hr.units) (pv 3) (pe_lst pa_nil) (nomark _)) (pe_op op_sub (pe_callB (cr_max rfl) (by rfl) gmx (by rfl) (pa_cons (pv 3) pa_nil)) (pe_callB (cr_min rfl) (by rfl) gmn (by rfl) (pa_cons (pv 3) pa_nil))) pe_int))
      (C8.pss_cut (ps_set (i := 12) nd rfl (.inr rfl) (pe_ix ix_list (pe_lst (pa_cons (pe_callB (call_min2 rfl) (by rfl) gmn (by decide +kernel) (pa_cons (pe_op op_sub (pv 13) pe_int) (pa_cons (pv 5) pa_nil)))
          (pa_cons (pe_callB (call_max2 rfl) (by rfl) gmx (by decide +kernel) (pa_cons pe_int (pa_cons (pe_op op_sub (pe_callB (call_min2 rfl) (by rfl) gmn (by decide +kernel) (pa_cons (pv 13) (pa_cons (pv 5) pa_nil))) pe_int) pa_nil)))
          (pa_cons (pe_kn DDrawn hr (by decide) (pa_cons (pv 1) (pa_cons (pv 13) pa_nil)) rfl) pa_nil)))) (pe_kn DDrawn hr (by decide) (pa_cons (pv 1) (pa_cons pe_int pa_nil)) rfl) (fun _ _ => rfl)))
      (pss_cons (ps_set (i := 10) nd rfl (.inr rfl) (pe_callTy call_list_of (by rfl) B.lst (by decide +kernel) (pa_cons (pv 4) pa_nil)))
      (C8.pss_cut (ps_for PassesOwn.never rfl (pi_range1 (by rfl) B.rng (pa_cons pe_int pa_nil)) (pg_name (i := 6) nd rfl (.inl rfl))
        (C8.pss_cut (ps_set (i := 7) nd rfl (.inl rfl) (pe_kind G hr (ownCells_at (X := XL P w K mg base f c A outer s H E)) rfl gk kk (pe_lm2 TB rfl hm hu (lamS_by ls1))))
        (C8.pss_cut (ps_if (PW.pt (pw_or (pt_not (pt_val (pe_kn DSame hr (by decide) (pa_cons (pv 7) (pa_cons (pe_kn DDue hr (by decide) (pa_cons (pv 13) (pa_cons (pv 12) (pa_cons (pv 4) pa_nil))) rfl) pa_nil)) rfl))) (pw_or1 (pt_cmpR (op_neD hr.units) (pv 10) (pv 4) (nomark _))))) (pss_one (ps_ret pe_bl)) pss_nil)
        (pss_one (ps_if (pt_val (pe_callB call_isi (by rfl) B.isi (by decide +kernel) (pa_cons (pv 7) (pa_cons (pe_bltn (v := .ty "list") (by rfl) B.lst (by decide +kernel) rfl) pa_nil))))
            (pss_one (ps_expr (pe_bm PySem.F.plainAttrs_list PySem.F.slot_list_append PySem.F.type_list_append mt_append (pv 7) (pa_cons pe_int pa_nil)))) pss_nil)))))
      (pss_cons (ps_set (i := 11) nd rfl (.inr rfl) (pe_kn DFar hr (by decide) (pa_cons (pv 1) (pa_cons pe_int (pa_cons (pe_op op_sub (pv 13) pe_int) pa_nil))) rfl))
      (pss_cons (ps_set (i := 8) nd rfl (.inl rfl) (pe_kn DDrawn hr (by decide) (pa_cons (pv 1) (pa_cons (pe_op op_add (pe_callB call_len_seq (by rfl) B.len PySem.boot_len (pa_cons (pv 4) pa_nil)) pe_int) pa_nil)) rfl))
      (C8.pss_cut (ps_set (i := 9) nd rfl (.inr rfl) (pe_ix ix_list (pe_lst (pa_cons (pe_op op_cat (pe_op op_cat (pe_slice sl_list (pv 4) po_none (po_some (pv 8))) (pe_lst (pa_cons (pv 11) pa_nil))) (pe_slice sl_list (pv 4) (po_some (pv 8)) po_none))
          (pa_cons (pe_op op_rep (pe_lst (pa_cons pe_int pa_nil)) (pe_op op_add pe_int (pe_kn DDrawn hr (by decide) (pa_cons (pv 1) (pa_cons pe_int pa_nil)) rfl))) pa_nil))) (pe_kn DDrawn hr (by decide) (pa_cons (pv 1) (pa_cons pe_int pa_nil)) rfl) (fun _ _ => rfl)))
      (C8.pss_cut (ps_if (pt_cmpR op_ne (pe_kind G hr (ownCells_at (X := XL P w K mg base f c A outer s H E)) rfl gk kk (pe_lm2 TB rfl hm hu (lamS_by ls2))) pe_str (nomark _)) (pss_one (ps_ret pe_bl)) pss_nil)
      (C8.pss_cut (ps_if (pt_cmpR op_ne (pe_kind G hr (ownCells_at (X := XL P w K mg base f c A outer s H E)) rfl gk kk (pe_lm2 TB rfl hm hu (lamS_by ls3))) pe_str (nomark _)) (pss_one (ps_ret pe_bl)) pss_nil)
      (pss_one (ps_if (pt_cmpR op_ne (pe_kind G hr (ownCells_at (X := XL P w K mg base f c A outer s H E)) rfl gk kk (pe_lm2 TB rfl hm hu (lamS_by ls4))) pe_str (nomark _)) (pss_one (ps_ret pe_bl)) pss_nil))))))))))))))
    (pss_one (ps_ret pe_bl))), ?_⟩
  refine ⟨.ref a, rfl, a, ns0, rfl, hS, fun S H1 sm1 nS st1 => ?_⟩
  have tb1 : Tabs (TT P0 P2) H1 := tb.ext sm1
  have tg1 := tabG_same tg sm1
  refine ⟨8, rfl, by decide, by decide, for_range (lo := 0) (n := 8)
    (fun _ σ H' => (∃ y2 y3 y4 y5 y6 y7 y8 y9 y10 y11 y12 y13, σ = [some (.ref a), some (.ref S), y2, y3, y4, y5, y6, y7, y8, y9, y10, y11, y12, y13]) ∧ StAt K S H' ∧ Tabs (TT P0 P2) H' ∧ GxR.TabG H' P1)
    ⟨⟨_, _, _, _, _, _, _, _, _, _, _, _, rfl⟩, st1, tb1, tg1⟩ (fun i σ H2 _ hP => ?_) (fun σ H2 _ => q H2)⟩
  obtain ⟨⟨y2, y3, y4, y5, y6, y7, y8, y9, y10, y11, y12, y13, rfl⟩, st2, tb2, tg2⟩ := hP
  refine ⟨.ref S, rfl, S, rfl, st2, fun n H3 hn b3 st3 => ?_⟩
  obtain ⟨n1, n2⟩ := id hn
  refine ⟨.ref S, rfl, .int n, rfl, by show 4 ≤ sizeLine; decide, fun p4 hp4 => ?_⟩
  refine ⟨.ref S, rfl, S, 4, rfl, st3.new hp4, by decide, by decide, fun v H4 v0 v1 b4 st4 => ?_⟩
  obtain ⟨x, ex, hx⟩ := pick4 (a := V.int 12) (b := V.int 12) (c := V.int 12) (d := V.int 59) v0 v1
  obtain ⟨mo, rfl, k0, k1⟩ : ∃ z : Int, x = .int z ∧ 0 ≤ z ∧ z ≤ 59 := by
    rcases hx with rfl | rfl | rfl | rfl <;> exact ⟨_, rfl, by omega, by omega⟩
  refine ⟨p4, _, v, _, rfl, rfl, SqL.of (b4 _ _ (st3.nn hp4) upd_same), ex, S, n, mo, rfl, hn, st4, k0, k1, fun p pt ps ts H5 lt smt b5 st5 ep et es => ?_⟩
  refine ⟨p, _, rfl, SqT.of ep, rfl, _, _, rfl, _, _, rfl, rfl, ?_⟩
  have b25 := ((b3.trans (But.new (o := .lst [.int 12, .int 12, .int 12, .int 59]) hp4)).trans b4).trans b5
  have tb5 := tabs_but tb2 b25 st2
  have tg5 := tabG_but tg2 b25 st2
  clear b25 b3 b4 b5 st2 st3 st4 tb2 tg2 ep ex hp4
  have smn : Sm n := ⟨by omega, by omega⟩
  -- how wide
  refine ⟨fun σ' H' => ∃ (z2 : Option V) (wd : Int), σ' = [some (.ref a), some (.ref S), z2, some (.ref pt), some (.ref ps), some (.int wd), y6, y7, y8, y9, y10, y11, y12, some (.int n)] ∧ 0 ≤ wd ∧ Same H5 H', ?_, ?_⟩
  · refine ⟨.ref pt, rfl, Nat.zero_le _, fun pn hpn => ?_⟩
    have sN := same_new (o := .lst []) hpn
    refine ne_nil (SqL.of (sN _ _ et)) (SqL.of upd_same) ⟨_, rfl, ?_⟩
    by_cases hts : ts = []
    · rw [decide_eq_true hts]
      exact iteF ⟨_, 0, rfl, by omega, sN⟩
    · rw [decide_eq_false hts]
      have tp : 0 < ts.length := List.length_pos_iff.mpr hts
      refine iteT ⟨.ref pt, rfl, pt, ts, rfl, SqL.of (sN _ _ et), tp, fun M hM hmax => ⟨.ref pt, rfl, pt, ts, rfl, SqL.of (sN _ _ et), tp, fun m hm hmin => ⟨_, _, rfl, rfl, _, M - m, rfl, ?_, sN⟩⟩⟩
      have := hmin M hM
      omega
  rintro σ6 H6 ⟨z2, wd, rfl, w0, s6⟩
  have st6 := st5.same s6
  have tb6 := tb5.ext s6
  have tg6 := tabG_same tg5 s6
  have es6 := s6 _ _ es
  have shown : ∀ x ∈ ts.map (· % n), Sn n x := fun x hx => by
    obtain ⟨y, _, rfl⟩ := List.mem_map.mp hx
    exact ⟨Int.emod_nonneg _ (by omega), Int.emod_lt_of_pos _ (by omega)⟩
  have len0 : (ts.map (· % n)).length ≤ 60 := by rw [List.length_map]; omega
  clear st5 tb5 tg5 es et s6 smt lt
  generalize ts.map (· % n) = ns at es6 shown len0
  have smx : ∀ x ∈ ns, Sm x := fun x hx => by
    have := shown x hx
    exact ⟨by have := this.1; omega, by have := this.2; omega⟩
  -- the span
  refine ⟨fun σ' H' => ∃ (sp : Int), σ' = [some (.ref a), some (.ref S), z2, some (.ref pt), some (.ref ps), some (.int wd), y6, y7, y8, y9, y10, y11, some (.int sp), some (.int n)] ∧ Sn n sp ∧ But S H6 H' ∧ StAt K S H', ?_, ?_⟩
  · refine ⟨.int n, rfl, _, _, rfl, rfl, .int wd, rfl, _, _, rfl, .int n, rfl, .int wd, rfl, _, _, rfl, _, _, rfl, rfl, _, _, rfl, .ref S, rfl, .int n, rfl, S, n, rfl, st6, by omega, by omega, fun d H7 d0 d1 b7 st7 => ?_⟩
    refine ⟨by show 3 ≤ sizeLine; decide, fun p3 hp3 => ?_⟩
    refine ⟨.ref S, rfl, S, 3, rfl, st7.new hp3, by decide, by decide, fun v H8 v0 v1 b8 st8 => ?_⟩
    obtain ⟨x, ex, hx⟩ := pick3 (a := V.int (if wd < n - 1 then wd else n - 1)) (b := V.int (if (if wd < n then wd else n) - 1 > 0 then (if wd < n then wd else n) - 1 else 0)) (c := V.int d) v0 v1
    obtain ⟨sp, rfl, hsp⟩ : ∃ z : Int, x = .int z ∧ Sn n z := by
      rcases hx with rfl | rfl | rfl
      · refine ⟨_, rfl, ?_⟩
        split
        · exact ⟨by omega, by omega⟩
        · exact ⟨by omega, by omega⟩
      · refine ⟨_, rfl, ?_⟩
        by_cases h1 : wd < n
        · rw [if_pos h1]
          split
          · exact ⟨by omega, by omega⟩
          · exact ⟨by omega, by omega⟩
        · rw [if_neg h1]
          split
          · exact ⟨by omega, by omega⟩
          · exact ⟨by omega, by omega⟩
      · exact ⟨_, rfl, d0, d1⟩
    exact ⟨p3, _, v, _, rfl, rfl, SqL.of (b8 _ _ (st7.nn hp3) upd_same), ex, sp, rfl, hsp, (b7.trans (But.new hp3)).trans b8, st8⟩
  rintro σ7 H7 ⟨sp, rfl, hsp, b7, st7⟩
  have tb7 := tabs_but tb6 b7 st6
  have tg7 := tabG_but tg6 b7 st6
  have nps : ps ≠ S := fun z => by
    obtain ⟨sa, sns, si, sm, sr, e9, _⟩ := st6
    rw [z, e9] at es6
    cases ns <;> cases es6
  have es7 := b7 _ _ nps es6
  have smsp : Sm sp := ⟨by have := hsp.1; omega, by have := hsp.2; omega⟩
  clear b7 st6 tb6 tg6 es6
  -- handed
  refine ⟨.ref ps, rfl, ps, _, rfl, .inl (SqL.of es7), fun ph hph => ?_⟩
  have s8 := same_new (o := .lst (ns.map V.int)) hph
  have eh8 : upd H7 ph (.lst (ns.map V.int)) ph = some (.lst (ns.map V.int)) := upd_same
  have nph : ph ≠ S := st7.nn hph
  generalize upd H7 ph (.lst (ns.map V.int)) = H8 at s8 eh8 ⊢
  have st8 := st7.same s8
  have tb8 := tb7.ext s8
  have tg8 := tabG_same tg7 s8
  have es8 := s8 _ _ es7
  clear st7 tb7 tg7 es7 s8 hph
  -- asked twice
  refine ⟨fun σ' H' => ∃ (z6 z7 : Option V), σ' = [some (.ref a), some (.ref S), z2, some (.ref pt), some (.ref ps), some (.int wd), z6, z7, y8, y9, some (.ref ph), y11, some (.int sp), some (.int n)] ∧ StAt K S H' ∧ Tabs (TT P0 P2) H' ∧ GxR.TabG H' P1 ∧ H' ps = some (.lst (ns.map V.int)) ∧ H' ph = some (.lst (ns.map V.int)), ?_, ?_⟩
  · refine ⟨2, rfl, by decide, by decide, for_range (lo := 0) (n := 2)
      (fun _ σ' H' => ∃ (z6 z7 : Option V), σ' = [some (.ref a), some (.ref S), z2, some (.ref pt), some (.ref ps), some (.int wd), z6, z7, y8, y9, some (.ref ph), y11, some (.int sp), some (.int n)] ∧ StAt K S H' ∧ Tabs (TT P0 P2) H' ∧ GxR.TabG H' P1 ∧ H' ps = some (.lst (ns.map V.int)) ∧ H' ph = some (.lst (ns.map V.int)))
      ⟨_, _, rfl, st8, tb8, tg8, es8, eh8⟩ (fun j σ H9 _ hP => ?_) (fun σ H9 hP => hP)⟩
    obtain ⟨z6, z7, rfl, st9, tb9, tg9, es9, eh9⟩ := hP
    -- found
    refine ⟨fun σ' H' => ∃ (fv : V) (bs : List Int) (J : Hp) (z6 : Option V), σ' = [some (.ref a), some (.ref S), z2, some (.ref pt), some (.ref ps), some (.int wd), z6, some fv, y8, y9, some (.ref ph), y11, some (.int sp), some (.int n)] ∧ StAt K S J ∧ J ps = some (.lst (ns.map V.int)) ∧ J ph = some (.lst (ns.map V.int)) ∧ ExtN J H' ∧
      (ns ≠ [] → Begins n sp ns bs) ∧ FoundAt H' n sp ns bs fv ∧ (∀ p, fv = .ref p → J p = none) ∧ Tabs (TT P0 P2) H' ∧ GxR.TabG H' P1, ?_, ?_⟩
    · refine ⟨tb9, fun lf lc J xJ tbJ oJ _ l1 k1 => ?_⟩
      have tgJ := tabG_o n01 tg9 oJ
      have stJ := st9.ext xJ
      have esJ := xJ _ _ es9 (fun _ z => nomatch z)
      have ehJ := xJ _ _ eh9 (fun _ z => nomatch z)
      refine ⟨lf, _, lamB lam1, fr1, _, _, rfl, l1, k1, ok_lam1 (CW := CW) (CS := CS) (CP := CP) (CN := CN) (P1 := P1) DArr (k := 6) (by decide) rfl rfl, ⟨[10, 12, 13], fun ok => Caps.made ok (ndef_free nd1) (ndef_fr nd1) rfl, rfl⟩, fun E hE => ?_⟩
      refine ⟨l1, k1, .ref ph, .int sp, .int n, rfl, n, sp, ph, ns, rfl, SqL.of ehJ, smn, smsp, by omega, smx, tgJ, hn, fun z => absurd hsp z, fun _ z => ?_, fun _ _ _ => ⟨fun e H' p s np ep => ?_, fun hne bs B H' bb => ⟨fun e => ?_, fun e => ?_, fun b eb p out np ep rk => ?_⟩⟩⟩
      · exfalso
        rcases z with z | ⟨x, hx, hx2⟩
        · omega
        · exact hx2 (shown x hx)
      · exact ⟨.ref p, [], J, _, rfl, stJ, esJ, ehJ, .of s, fun z => absurd e z, .inl ⟨e, p, rfl, ep⟩, fun p' z => by cases z; exact np, tbJ.ext s, tabG_same tgJ s⟩
      · refine hE CN 7 H' kdN fun H'' s => ?_
        exact ⟨.str "NoSpan", bs, J, _, rfl, stJ, esJ, ehJ, (bb.ext tgJ).trans (.of s), fun _ => B, .inr ⟨hne, .inl ⟨e, rfl⟩⟩, fun p' z => (nomatch z), (tabs_butT nT tbJ tgJ bb).ext s, tabG_same bb.1 s⟩
      · exact ⟨.non, bs, J, _, rfl, stJ, esJ, ehJ, bb.ext tgJ, fun _ => B, .inr ⟨hne, .inr (.inl ⟨e, rfl⟩)⟩, fun p' z => (nomatch z), tabs_butT nT tbJ tgJ bb, bb.1⟩
      · exact ⟨.ref p, bs, J, _, rfl, stJ, esJ, ehJ, bb.ext tgJ, fun _ => B, .inr ⟨hne, .inr (.inr ⟨b, eb, p, out, rfl, ep, rk⟩)⟩, fun p' z => by cases z; exact np, tabs_butT nT tbJ tgJ bb, bb.1⟩
    rintro σA HA ⟨fv, bs, J, z6', rfl, stJ, esJ, ehJ, xA, hB, hf, fr, tbA, tgA⟩
    -- compared
    refine ⟨fun σ' H' => σ' = [some (.ref a), some (.ref S), z2, some (.ref pt), some (.ref ps), some (.int wd), z6', some fv, y8, y9, some (.ref ph), y11, some (.int sp), some (.int n)] ∧ ExtN HA H' ∧ Tabs (TT P0 P2) H' ∧ GxR.TabG H' P1, ?_, ?_⟩
    · refine ⟨fv, rfl, .int n, rfl, .int sp, rfl, .ref ps, rfl, n, sp, ps, ns, bs, rfl, SqL.of (xA _ _ esJ (fun _ z => nomatch z)), hn, shown, len0, hB, tbA, fun HB xB tbB oB => ?_⟩
      have tgB := tabG_o n21 tgA oB
      have esB := (xA.trans xB) _ _ esJ (fun _ z => nomatch z)
      have ehB := (xA.trans xB) _ _ ehJ (fun _ z => nomatch z)
      refine ⟨fun e p ep => ?_, fun hne => ⟨fun e => ?_, fun e => ?_, fun b eb v pv => ?_⟩⟩
      · obtain ⟨p9, rfl, e9⟩ : ∃ p9, fv = .ref p9 ∧ HA p9 = some (.lst []) := by
          rcases hf with ⟨_, h⟩ | ⟨h, _⟩
          · exact h
          · exact absurd e h
        refine ⟨_, _, rfl, fun HC sC => ⟨_, rfl, iteF ⟨_, rfl, _, rfl, ne_ints (SqL.of (sC _ _ ehB)) (SqL.of (sC _ _ esB)) ⟨_, rfl, iteF ⟨rfl, xB.trans (.of sC), tbB.ext sC, tabG_same tgB sC⟩⟩⟩⟩, same1_or (b := true) (xs := []) (xB _ _ e9 (fun _ z => nomatch z)) ep (by decide) rfl⟩
      · obtain rfl : fv = .str "NoSpan" := by
          rcases hf with ⟨h, _⟩ | ⟨_, ⟨_, h⟩ | ⟨h, _⟩ | ⟨b, h, _⟩⟩
          · exact absurd h hne
          · exact h
          · rw [e] at h; exact absurd h (by simp)
          · rw [e] at h; cases h
        refine ⟨_, _, rfl, fun HC sC => ⟨_, rfl, iteF ⟨_, rfl, _, rfl, ne_ints (SqL.of (sC _ _ ehB)) (SqL.of (sC _ _ esB)) ⟨_, rfl, iteF ⟨rfl, xB.trans (.of sC), tbB.ext sC, tabG_same tgB sC⟩⟩⟩⟩, .inl ⟨rfl, rfl⟩⟩
      · obtain rfl : fv = .non := by
          rcases hf with ⟨h, _⟩ | ⟨_, ⟨h, _⟩ | ⟨_, h⟩ | ⟨b, h, _⟩⟩
          · exact absurd h hne
          · rw [h] at e; exact absurd e (by simp)
          · exact h
          · rw [h] at e; exact absurd e (by simp)
        refine ⟨_, _, rfl, fun HC sC => ⟨_, rfl, iteF ⟨_, rfl, _, rfl, ne_ints (SqL.of (sC _ _ ehB)) (SqL.of (sC _ _ esB)) ⟨_, rfl, iteF ⟨rfl, xB.trans (.of sC), tbB.ext sC, tabG_same tgB sC⟩⟩⟩⟩, .inl ⟨rfl, rfl⟩⟩
      · obtain ⟨p9, out, rfl, e9, rk⟩ : PlaceAt HA n ns b fv := by
          rcases hf with ⟨h, _⟩ | ⟨_, ⟨h, _⟩ | ⟨h, _⟩ | ⟨b', h, pl⟩⟩
          · exact absurd h hne
          · rw [h] at eb; cases eb
          · rw [eb] at h; exact absurd h (by simp)
          · rw [h] at eb; cases eb; exact pl
        obtain ⟨p8, out', rfl, e8, rk'⟩ := pv
        obtain rfl := rk'.uniq rk
        have ol : out'.length ≤ 60 := by
          have := rk.perm.length_eq
          rw [List.length_range] at this
          omega
        refine ⟨_, _, rfl, fun HC sC => ⟨_, rfl, iteF ⟨_, rfl, _, rfl, ne_ints (SqL.of (sC _ _ ehB)) (SqL.of (sC _ _ esB)) ⟨_, rfl, iteF ⟨rfl, xB.trans (.of sC), tbB.ext sC, tabG_same tgB sC⟩⟩⟩⟩, same1_or (b := true) (xs := out'.map fun i => V.int (i : Nat)) (xB _ _ e9 (fun _ z => nomatch z)) e8 (by rw [List.length_map]; omega) (by rw [List.all_map]; exact List.all_eq_true.mpr fun _ _ => rfl)⟩
    rintro σB HB ⟨rfl, xB, tbB, tgB⟩
    have xJ := xA.trans xB
    have stB := stJ.ext xJ
    have esB := xJ _ _ esJ (fun _ z => nomatch z)
    have ehB := xJ _ _ ehJ (fun _ z => nomatch z)
    -- the list told is changed
    rcases (hf.ext xB).list with rfl | rfl | ⟨p9, xs, rfl, e9, l9⟩
    · exact ⟨_, rfl, .str "NoSpan", .ty "list", .type "str", .type "list", false, rfl, .ty "list", .base (.str _), kit_ty (by decide +kernel), _, rfl, iteF ⟨_, _, rfl, stB, tbB, tgB, esB, ehB⟩⟩
    · exact ⟨_, rfl, .non, .ty "list", .type "NoneType", .type "list", false, rfl, .ty "list", .base .non, kit_ty (by decide +kernel), _, rfl, iteF ⟨_, _, rfl, stB, tbB, tgB, esB, ehB⟩⟩
    · have np := fr p9 rfl
      refine ⟨_, rfl, .ref p9, .ty "list", .type (kn true), .type "list", true, rfl, .ty "list", mk_ty (b := true) e9, mk_one, _, rfl, iteT ?_⟩
      refine ⟨.ref p9, rfl, .inl ⟨rfl, _, SqL.of e9⟩, p9, _, .int 0, rfl, rfl, e9, by rw [sizeLine_eq]; omega, ?_⟩
      exact ⟨_, _, rfl, st_app stJ np xJ, tabs_put tbB e9, tabG_lst tgB e9, by rw [upd_ne (fun z => by rw [z, np] at esJ; cases esJ)]; exact esB, by rw [upd_ne (fun z => by rw [z, np] at ehJ; cases ehJ)]; exact ehB⟩
  rintro σ9 H9 ⟨z6, z7, rfl, st9, tb9, tg9, es9, eh9⟩
  clear st8 tb8 tg8 es8 eh8
  -- odd
  refine ⟨.ref S, rfl, .int n, rfl, _, _, rfl, rfl, S, 0, _, rfl, st9, by decide, by decide, by omega, by omega, fun odd H10 hodd smo b10 st10 => ?_⟩
  have es10 := b10 _ _ nps es9
  have nodd : ¬ Sn n odd := fun z => by
    obtain ⟨z1, z2⟩ := z
    rcases hodd with h | h <;> omega
  have smo := smo.sm
  -- where
  refine ⟨.ref S, rfl, .ref ps, rfl, ps, _, rfl, .inl (SqL.of es10), _, _, rfl, rfl, S, _, rfl, st10, by omega, by rw [List.length_map]; omega, fun at_ H11 at0 at1 b11 st11 => ?_⟩
  have es11 := b11 _ _ nps es10
  have b911 := b10.trans b11
  -- bad
  refine ⟨fun σ' H' => ∃ (pb : Addr) (bad : List Int), σ' = [some (.ref a), some (.ref S), z2, some (.ref pt), some (.ref ps), some (.int wd), z6, z7, some (.int at_), some (.ref pb), some (.ref ph), some (.int odd), some (.int sp), some (.int n)] ∧ H' pb = some (.lst (bad.map V.int)) ∧ bad.length ≤ 1000 ∧ (∀ x ∈ bad, Sm x) ∧ (60 < bad.length ∨ ∃ x ∈ bad, ¬ Sn n x) ∧ But S H9 H' ∧ StAt K S H', ?_, ?_⟩
  · refine ⟨.ref ps, rfl, .int at_, rfl, at_, rfl, ps, _, rfl, SqL.of es11, fun q1 hq1 => ?_⟩
    rw [cut_ints]
    have s1 := same_new (o := .lst ((cutI ns none (some at_)).map V.int)) hq1
    have e1 : upd H11 q1 (.lst ((cutI ns none (some at_)).map V.int)) q1 = some (.lst ((cutI ns none (some at_)).map V.int)) := upd_same
    generalize upd H11 q1 (.lst ((cutI ns none (some at_)).map V.int)) = J1 at s1 e1 ⊢
    refine ⟨.int odd, rfl, by show 1 ≤ sizeLine; decide, fun q2 hq2 => ?_⟩
    have s2 := same_new (o := .lst [.int odd]) hq2
    have e2 : upd J1 q2 (.lst [.int odd]) q2 = some (.lst [.int odd]) := upd_same
    generalize upd J1 q2 (.lst [.int odd]) = J2 at s2 e2 ⊢
    have c1 := cutI_len ns none (some at_)
    have c2 := cutI_len ns (some at_) none
    refine ⟨q1, q2, _, _, rfl, rfl, s2 _ _ e1, e2, by rw [List.length_map, sizeLine_eq]; show _ + 1 ≤ _; omega, fun q3 hq3 => ?_⟩
    have s3 := same_new (o := .lst ((cutI ns none (some at_)).map V.int ++ [.int odd])) hq3
    have e3 : upd J2 q3 (.lst ((cutI ns none (some at_)).map V.int ++ [.int odd])) q3 = some (.lst ((cutI ns none (some at_)).map V.int ++ [.int odd])) := upd_same
    generalize upd J2 q3 (.lst ((cutI ns none (some at_)).map V.int ++ [.int odd])) = J3 at s3 e3 ⊢
    have s13 := (s1.trans s2).trans s3
    refine ⟨.ref ps, rfl, .int at_, rfl, at_, rfl, ps, _, rfl, SqL.of (s13 _ _ es11), fun q4 hq4 => ?_⟩
    rw [cut_ints]
    have s4 := same_new (o := .lst ((cutI ns (some at_) none).map V.int)) hq4
    have e4 : upd J3 q4 (.lst ((cutI ns (some at_) none).map V.int)) q4 = some (.lst ((cutI ns (some at_) none).map V.int)) := upd_same
    generalize upd J3 q4 (.lst ((cutI ns (some at_) none).map V.int)) = J4 at s4 e4 ⊢
    refine ⟨q3, q4, _, _, rfl, rfl, s4 _ _ e3, e4, by rw [List.length_append, List.length_map, List.length_map, sizeLine_eq]; show _ + 1 + _ ≤ _; omega, fun q5 hq5 => ?_⟩
    have eL : (cutI ns none (some at_)).map V.int ++ [.int odd] ++ (cutI ns (some at_) none).map V.int = (cutI ns none (some at_) ++ [odd] ++ cutI ns (some at_) none).map V.int := by
      rw [List.map_append, List.map_append]
      rfl
    rw [eL]
    have s5 := same_new (o := .lst ((cutI ns none (some at_) ++ [odd] ++ cutI ns (some at_) none).map V.int)) hq5
    have e5 : upd J4 q5 (.lst ((cutI ns none (some at_) ++ [odd] ++ cutI ns (some at_) none).map V.int)) q5 = some (.lst ((cutI ns none (some at_) ++ [odd] ++ cutI ns (some at_) none).map V.int)) := upd_same
    have m5 : odd ∈ cutI ns none (some at_) ++ [odd] ++ cutI ns (some at_) none := by simp
    have k5 : ∀ x ∈ cutI ns none (some at_) ++ [odd] ++ cutI ns (some at_) none, Sm x := fun x hx => by
      rcases List.mem_append.mp hx with h | h
      · rcases List.mem_append.mp h with h | h
        · exact smx x (cutI_mem h)
        · rw [List.mem_singleton.mp h]; exact smo
      · exact smx x (cutI_mem h)
    have l5 : (cutI ns none (some at_) ++ [odd] ++ cutI ns (some at_) none).length ≤ 1000 := by
      rw [List.length_append, List.length_append]
      show _ + 1 + _ ≤ _
      omega
    generalize cutI ns none (some at_) ++ [odd] ++ cutI ns (some at_) none = bad1 at s5 e5 m5 k5 l5 ⊢
    generalize upd J4 q5 (.lst (bad1.map V.int)) = J5 at s5 e5 ⊢
    refine ⟨by show 1 ≤ sizeLine; decide, fun q6 hq6 => ?_⟩
    have s6 := same_new (o := .lst [.int 0]) hq6
    have e6 : upd J5 q6 (.lst [.int 0]) q6 = some (.lst [.int 0]) := upd_same
    generalize upd J5 q6 (.lst [.int 0]) = J6 at s6 e6 ⊢
    have s16 := ((s13.trans s4).trans s5).trans s6
    have stJ6 := st11.same s16
    have nq6 : q6 ≠ S := fun z => by
      obtain ⟨sa, sns, si, sm, sr, e9, _⟩ := stJ6
      rw [z, e9] at e6
      cases e6
    have nq5 : q5 ≠ S := fun z => by
      obtain ⟨sa, sns, si, sm, sr, e9, _⟩ := stJ6
      rw [z] at e5
      have := s6 _ _ e5
      rw [e9] at this
      cases bad1 <;> cases this
    refine ⟨.ref S, rfl, S, 3, rfl, stJ6, by decide, by decide, fun dk J7 dk0 dk1 b17 st17 => ?_⟩
    refine ⟨_, _, rfl, rfl, q6, _, _, rfl, rfl, b17 _ _ nq6 e6, by omega, by omega, by rw [sizeLine_eq]; show 1 * _ ≤ _; omega, fun q7 hq7 => ?_⟩
    rw [noughts]
    obtain ⟨kk2, hkk⟩ : ∃ k : Nat, (61 + dk).toNat = k := ⟨_, rfl⟩
    have kb : 61 ≤ kk2 ∧ kk2 ≤ 63 := by omega
    rw [hkk]
    have s7 := same_new (o := .lst ((List.replicate kk2 (0 : Int)).map V.int)) hq7
    have e7 : upd J7 q7 (.lst ((List.replicate kk2 (0 : Int)).map V.int)) q7 = some (.lst ((List.replicate kk2 (0 : Int)).map V.int)) := upd_same
    generalize upd J7 q7 (.lst ((List.replicate kk2 (0 : Int)).map V.int)) = J8 at s7 e7 ⊢
    refine ⟨by show 2 ≤ sizeLine; decide, fun q8 hq8 => ?_⟩
    have s8 := same_new (o := .lst [.ref q5, .ref q7]) hq8
    have e8 : upd J8 q8 (.lst [.ref q5, .ref q7]) q8 = some (.lst [.ref q5, .ref q7]) := upd_same
    generalize upd J8 q8 (.lst [.ref q5, .ref q7]) = J9 at s8 e8 ⊢
    have s78 := s7.trans s8
    have st19 := st17.same s78
    have nq7 : q7 ≠ S := fun z => by
      obtain ⟨sa, sns, si, sm, sr, e9, _⟩ := st19
      rw [z] at e7
      have := s8 _ _ e7
      rw [e9] at this
      cases kk2 with
      | zero => omega
      | succ m => rw [List.replicate_succ] at this; cases this
    have nq8 : q8 ≠ S := fun z => by
      obtain ⟨sa, sns, si, sm, sr, e9, _⟩ := st19
      rw [z, e9] at e8
      cases e8
    refine ⟨.ref S, rfl, S, 2, rfl, st19, by decide, by decide, fun v JA v0 v1 bA stA => ?_⟩
    obtain ⟨x, ex, hx⟩ := pick2 (a := V.ref q5) (b := V.ref q7) v0 v1
    refine ⟨q8, _, v, _, rfl, rfl, SqL.of (bA _ _ nq8 e8), ex, ?_⟩
    have bAll : But S H9 JA := (((b911.trans (But.of s16)).trans b17).trans (But.of s78)).trans bA
    rcases hx with rfl | rfl
    · exact ⟨q5, bad1, rfl, bA _ _ nq5 (s78 _ _ (b17 _ _ nq5 (s6 _ _ e5))), l5, k5, .inr ⟨odd, m5, nodd⟩, bAll, stA⟩
    · refine ⟨q7, List.replicate kk2 0, rfl, bA _ _ nq7 (s8 _ _ e7), by rw [List.length_replicate]; omega, fun x hx => ?_, .inl (by rw [List.length_replicate]; omega), bAll, stA⟩
      rw [List.eq_of_mem_replicate hx]
      exact ⟨by decide, by decide⟩
  rintro σ12 H12 ⟨pb, bad, rfl, eb12, bl, smb, hbad, b12, st12⟩
  have tb12 := tabs_but tb9 b12 st9
  have tg12 := tabG_but tg9 b12 st9
  clear st9 tb9 tg9 es9 eh9 st10 es10 st11 es11 b10 b11 b911 b12
  -- refused: the span
  refine ⟨fun σ' H' => σ' = [some (.ref a), some (.ref S), z2, some (.ref pt), some (.ref ps), some (.int wd), z6, z7, some (.int at_), some (.ref pb), some (.ref ph), some (.int odd), some (.int sp), some (.int n)] ∧ StAt K S H' ∧ Tabs (TT P0 P2) H' ∧ GxR.TabG H' P1 ∧ H' pb = some (.lst (bad.map V.int)), ?_, ?_⟩
  · refine ⟨tb12, fun lf lc J xJ tbJ oJ _ l1 k1 => ?_⟩
    have tgJ := tabG_o n01 tg12 oJ
    have stJ := st12.ext xJ
    have ebJ := xJ _ _ eb12 (fun _ z => nomatch z)
    refine ⟨lf, _, lamB lam2, fr2, _, _, rfl, l1, k1, ok_lam2 (CW := CW) (CS := CS) (CP := CP) (CN := CN) (P1 := P1) DArr (k := 6) (by decide) rfl rfl, ⟨[9, 11, 13], fun ok => Caps.made ok (ndef_free nd2) (ndef_fr nd2) rfl, rfl⟩, fun E hE => ?_⟩
    refine ⟨l1, k1, .ref pb, .int odd, .int n, rfl, n, odd, pb, bad, rfl, SqL.of ebJ, smn, smo, bl, smb, tgJ, hn, fun _ H' s => hE CP 4 H' kdP fun H'' s2 => ?_, fun z => absurd z nodd, fun z => absurd z nodd⟩
    have s3 := s.trans s2
    exact ⟨rfl, _, rfl, iteF ⟨rfl, stJ.same s3, tbJ.ext s3, tabG_same tgJ s3, s3 _ _ ebJ⟩⟩
  rintro σ13 H13 ⟨rfl, st13, tb13, tg13, eb13⟩
  clear st12 tb12 tg12 eb12
  -- refused: what isn't shown
  refine ⟨fun σ' H' => σ' = [some (.ref a), some (.ref S), z2, some (.ref pt), some (.ref ps), some (.int wd), z6, z7, some (.int at_), some (.ref pb), some (.ref ph), some (.int odd), some (.int sp), some (.int n)] ∧ StAt K S H' ∧ Tabs (TT P0 P2) H' ∧ GxR.TabG H' P1 ∧ H' pb = some (.lst (bad.map V.int)), ?_, ?_⟩
  · refine ⟨tb13, fun lf lc J xJ tbJ oJ _ l1 k1 => ?_⟩
    have tgJ := tabG_o n01 tg13 oJ
    have stJ := st13.ext xJ
    have ebJ := xJ _ _ eb13 (fun _ z => nomatch z)
    refine ⟨lf, _, lamB lam3, fr3, _, _, rfl, l1, k1, ok_lam3 (CW := CW) (CS := CS) (CP := CP) (CN := CN) (P1 := P1) DArr (k := 6) (by decide) rfl rfl, ⟨[9, 12, 13], fun ok => Caps.made ok (ndef_free nd3) (ndef_fr nd3) rfl, rfl⟩, fun E hE => ?_⟩
    refine ⟨l1, k1, .ref pb, .int sp, .int n, rfl, n, sp, pb, bad, rfl, SqL.of ebJ, smn, smsp, bl, smb, tgJ, hn, fun z => absurd hsp z, fun _ _ H' s => hE CS 2 H' kdS fun H'' s2 => ?_, fun _ z1 z2 => ?_⟩
    · have s3 := s.trans s2
      exact ⟨rfl, _, rfl, iteF ⟨rfl, stJ.same s3, tbJ.ext s3, tabG_same tgJ s3, s3 _ _ ebJ⟩⟩
    · exfalso
      rcases hbad with h | ⟨x, hx, h⟩
      · omega
      · exact h (z2 x hx)
  rintro σ14 H14 ⟨rfl, st14, tb14, tg14, eb14⟩
  clear st13 tb13 tg13 eb13
  refine ⟨tb14, fun lf lc J xJ tbJ oJ _ l1 k1 => ?_⟩
  have tgJ := tabG_o n01 tg14 oJ
  have stJ := st14.ext xJ
  have ebJ := xJ _ _ eb14 (fun _ z => nomatch z)
  refine ⟨lf, _, lamB lam4, fr4, _, _, rfl, l1, k1, ok_lam4 (CW := CW) (CS := CS) DRing (k := 6) (by decide) rfl rfl, ⟨[9, 13], fun ok => Caps.made ok (ndef_free nd4) (ndef_fr nd4) rfl, rfl⟩, fun E hE => ?_⟩
  refine ⟨l1, k1, .ref pb, .int n, rfl, n, pb, bad, rfl, SqL.of ebJ, smn, bl, smb, fun z => absurd hn z, fun _ _ H' s => hE CS 2 H' kdS fun H'' s2 => ?_, fun _ z1 z2 => ?_⟩
  · have s3 := s.trans s2
    exact ⟨rfl, _, rfl, iteF ⟨⟨_, _, _, _, _, _, _, _, _, _, _, _, rfl⟩, stJ.same s3, tbJ.ext s3, tabG_same tgJ s3⟩⟩
  · exfalso
    rcases hbad with h | ⟨x, hx, h⟩
    · omega
    · exact h (z2 x hx)
end

end K8

namespace K8
open PySem PySem.Spec PyProof.Rows L2 LamX NdefX Lx
theorem all_mk {w : World} {K : PySem.W.Frag} {h : Heap} {mg : Str → Option Value} {fa cL P0 E0 E1 E2 E3 E4 E5 E6 E7 E8 : Addr} {ts : List Addr} {lv : List (Str × PySem.W.WData)} {q : Program} (X : K.In h) (G : h.Ns mainGlobals mg) (hfa : mg "law" = some (.ref fa)) (tabs : ∀ P ∈ ts, h.get? P = some (PySem.W.tabObj #[])) (XL : PySem.W.XL q lv mg h) (BR : Lx.Bare K mg h ["_lie_within", "_law_due"])
    {ec : Value} {dc : Option Addr} {vc : Array Value} {slc : Array (Option Value)}
    {f0 : Addr} {od0 an0 : Option Addr} {sl0 : Array (Option Value)} {oc0 kV0 dc0 pm0 cd0 ct0 : Value}
    {f1 : Addr} {od1 an1 : Option Addr} {sl1 : Array (Option Value)} {oc1 kV1 dc1 pm1 cd1 ct1 : Value}
    {f2 : Addr} {od2 an2 : Option Addr} {sl2 : Array (Option Value)} {oc2 kV2 dc2 pm2 cd2 ct2 : Value}
    {f3 : Addr} {od3 an3 : Option Addr} {sl3 : Array (Option Value)} {oc3 kV3 dc3 pm3 cd3 ct3 : Value}
    {f4 : Addr} {od4 an4 : Option Addr} {sl4 : Array (Option Value)} {oc4 kV4 dc4 pm4 cd4 ct4 : Value}
    {f5 : Addr} {od5 an5 : Option Addr} {sl5 : Array (Option Value)} {oc5 kV5 dc5 pm5 cd5 ct5 : Value}
    {f6 : Addr} {od6 an6 : Option Addr} {sl6 : Array (Option Value)} {oc6 kV6 dc6 pm6 ct6 : Value}
    {f7 : Addr} {od7 an7 : Option Addr} {sl7 : Array (Option Value)} {oc7 kV7 dc7 pm7 cd7 ct7 : Value}
    {f8 : Addr} {od8 an8 : Option Addr} {sl8 : Array (Option Value)} {oc8 kV8 dc8 pm8 cd8 ct8 : Value}
    {f9 : Addr} {od9 an9 : Option Addr} {sl9 : Array (Option Value)} {oc9 kV9 dc9 pm9 cd9 ct9 : Value}
    {f10 : Addr} {od10 an10 : Option Addr} {sl10 : Array (Option Value)} {oc10 kV10 dc10 pm10 cd10 ct10 : Value}
    {f11 : Addr} {od11 an11 : Option Addr} {sl11 : Array (Option Value)} {oc11 kV11 dc11 pm11 cd11 ct11 : Value}
    {f12 : Addr} {od12 an12 : Option Addr} {sl12 : Array (Option Value)} {oc12 kV12 dc12 pm12 cd12 ct12 : Value}
    {f13 : Addr} {od13 an13 : Option Addr} {sl13 : Array (Option Value)} {oc13 kV13 dc13 pm13 cd13 ct13 : Value}
    {f14 : Addr} {od14 an14 : Option Addr} {sl14 : Array (Option Value)} {oc14 kV14 dc14 pm14 cd14 ct14 : Value}
    {f15 : Addr} {od15 an15 : Option Addr} {sl15 : Array (Option Value)} {oc15 kV15 dc15 pm15 cd15 ct15 : Value}
    {f16 : Addr} {od16 an16 : Option Addr} {sl16 : Array (Option Value)} {oc16 kV16 dc16 pm16 cd16 ct16 : Value}
    {f17 : Addr} {od17 an17 : Option Addr} {sl17 : Array (Option Value)} {oc17 kV17 dc17 pm17 cd17 ct17 : Value}
    {f18 : Addr} {od18 an18 : Option Addr} {sl18 : Array (Option Value)} {oc18 kV18 dc18 pm18 ct18 : Value}
    {f19 : Addr} {od19 an19 : Option Addr} {sl19 : Array (Option Value)} {oc19 kV19 dc19 pm19 ct19 : Value}
    {cW P1 : Addr} {ec1 : Value} {dc_1 : Option Addr} {vc1 : Array Value} {slc1 : Array (Option Value)}
    {cD P2 : Addr} {ec2 : Value} {dc_2 : Option Addr} {vc2 : Array Value} {slc2 : Array (Option Value)}
    {tk0 : Tok}
    {tk1 : Tok}
    (a0 : PySem.W.nsIn K mainGlobals "is_wheel" = some (some (.ref f0))) (l0 : K.lookup f0 = some ⟨oc0, od0, .func (PySem.W.fnOf "is_wheel" "is_wheel" (defArgs sIsWheel) (defBody sIsWheel) (defScope sIsWheel) .none kV0 dc0 pm0 an0 cd0 ct0), sl0⟩) (c0 : PySem.W.codeIn K cd0 "is_wheel" = true) (k0 : PySem.W.keepIn K (.ref f0) = true)
    (a1 : PySem.W.nsIn K mainGlobals "check_wheel" = some (some (.ref f1))) (l1 : K.lookup f1 = some ⟨oc1, od1, .func (PySem.W.fnOf "check_wheel" "check_wheel" (defArgs sCheckWheel) (defBody sCheckWheel) (defScope sCheckWheel) .none kV1 dc1 pm1 an1 cd1 ct1), sl1⟩) (c1 : PySem.W.codeIn K cd1 "check_wheel" = true) (k1 : PySem.W.keepIn K (.ref f1) = true)
    (a2 : PySem.W.nsIn K mainGlobals "check_seen" = some (some (.ref f2))) (l2 : K.lookup f2 = some ⟨oc2, od2, .func (PySem.W.fnOf "check_seen" "check_seen" (defArgs sCheckSeen) (defBody sCheckSeen) (defScope sCheckSeen) .none kV2 dc2 pm2 an2 cd2 ct2), sl2⟩) (c2 : PySem.W.codeIn K cd2 "check_seen" = true) (k2 : PySem.W.keepIn K (.ref f2) = true)
    (a3 : PySem.W.nsIn K mainGlobals "since" = some (some (.ref f3))) (l3 : K.lookup f3 = some ⟨oc3, od3, .func (PySem.W.fnOf "since" "since" (defArgs sSince) (defBody sSince) (defScope sSince) .none kV3 dc3 pm3 an3 cd3 ct3), sl3⟩) (c3 : PySem.W.codeIn K cd3 "since" = true) (k3 : PySem.W.keepIn K (.ref f3) = true)
    (a4 : PySem.W.nsIn K mainGlobals "order" = some (some (.ref f4))) (l4 : K.lookup f4 = some ⟨oc4, od4, .func (PySem.W.fnOf "order" "order" (defArgs sOrder) (defBody sOrder) (defScope sOrder) .none kV4 dc4 pm4 an4 cd4 ct4), sl4⟩) (c4 : PySem.W.codeIn K cd4 "order" = true) (k4 : PySem.W.keepIn K (.ref f4) = true)
    (a5 : PySem.W.nsIn K mainGlobals "_check_row" = some (some (.ref f5))) (l5 : K.lookup f5 = some ⟨oc5, od5, .func (PySem.W.fnOf "_check_row" "_check_row" (defArgs sCheckRow) (defBody sCheckRow) (defScope sCheckRow) .none kV5 dc5 pm5 an5 cd5 ct5), sl5⟩) (c5 : PySem.W.codeIn K cd5 "_check_row" = true) (k5 : PySem.W.keepIn K (.ref f5) = true)
    (a6 : PySem.W.nsIn K mainGlobals "_lie_within" = some (some (.ref f6))) (l6 : K.lookup f6 = some ⟨oc6, od6, .func (PySem.W.fnOf "_lie_within" "_lie_within" (defArgs sLie) (defBody sLie) (defScope sLie) .none kV6 dc6 pm6 an6 (.ref cW) ct6), sl6⟩) (c6 : PySem.W.codeIn K (.ref cW) "_lie_within" = true) (k6 : PySem.W.keepIn K (.ref f6) = true)
    (a7 : PySem.W.nsIn K mainGlobals "_places_from" = some (some (.ref f7))) (l7 : K.lookup f7 = some ⟨oc7, od7, .func (PySem.W.fnOf "_places_from" "_places_from" (defArgs sPl) (defBody sPl) (defScope sPl) .none kV7 dc7 pm7 an7 cd7 ct7), sl7⟩) (c7 : PySem.W.codeIn K cd7 "_places_from" = true) (k7 : PySem.W.keepIn K (.ref f7) = true)
    (a8 : PySem.W.nsIn K mainGlobals "arranged" = some (some (.ref f8))) (l8 : K.lookup f8 = some ⟨oc8, od8, .func (PySem.W.fnOf "arranged" "arranged" (defArgs sArr) (defBody sArr) (defScope sArr) .none kV8 dc8 pm8 an8 cd8 ct8), sl8⟩) (c8 : PySem.W.codeIn K cd8 "arranged" = true) (k8 : PySem.W.keepIn K (.ref f8) = true)
    (a9 : PySem.W.nsIn K mainGlobals "ring" = some (some (.ref f9))) (l9 : K.lookup f9 = some ⟨oc9, od9, .func (PySem.W.fnOf "ring" "ring" (defArgs sRing) (defBody sRing) (defScope sRing) .none kV9 dc9 pm9 an9 cd9 ct9), sl9⟩) (c9 : PySem.W.codeIn K cd9 "ring" = true) (k9 : PySem.W.keepIn K (.ref f9) = true)
    (a10 : PySem.W.nsIn K mainGlobals "_law_start" = some (some (.ref f10))) (l10 : K.lookup f10 = some ⟨oc10, od10, .func (PySem.W.fnOf "_law_start" "_law_start" (defArgs sStart) (defBody sStart) (defScope sStart) .none kV10 dc10 pm10 an10 cd10 ct10), sl10⟩) (c10 : PySem.W.codeIn K cd10 "_law_start" = true) (k10 : PySem.W.keepIn K (.ref f10) = true)
    (a11 : PySem.W.nsIn K mainGlobals "_law_drawn" = some (some (.ref f11))) (l11 : K.lookup f11 = some ⟨oc11, od11, .func (PySem.W.fnOf "_law_drawn" "_law_drawn" (defArgs sDrawn) (defBody sDrawn) (defScope sDrawn) .none kV11 dc11 pm11 an11 cd11 ct11), sl11⟩) (c11 : PySem.W.codeIn K cd11 "_law_drawn" = true) (k11 : PySem.W.keepIn K (.ref f11) = true)
    (a12 : PySem.W.nsIn K mainGlobals "_law_kind" = some (some (.ref f12))) (l12 : K.lookup f12 = some ⟨oc12, od12, .func (PySem.W.fnOf "_law_kind" "_law_kind" (defArgs sKind) (defBody sKind) (defScope sKind) .none kV12 dc12 pm12 an12 cd12 ct12), sl12⟩) (c12 : PySem.W.codeIn K cd12 "_law_kind" = true) (k12 : PySem.W.keepIn K (.ref f12) = true)
    (a13 : PySem.W.nsIn K mainGlobals "_law_wheel" = some (some (.ref f13))) (l13 : K.lookup f13 = some ⟨oc13, od13, .func (PySem.W.fnOf "_law_wheel" "_law_wheel" (defArgs sWheel) (defBody sWheel) (defScope sWheel) .none kV13 dc13 pm13 an13 cd13 ct13), sl13⟩) (c13 : PySem.W.codeIn K cd13 "_law_wheel" = true) (k13 : PySem.W.keepIn K (.ref f13) = true)
    (a14 : PySem.W.nsIn K mainGlobals "_law_time" = some (some (.ref f14))) (l14 : K.lookup f14 = some ⟨oc14, od14, .func (PySem.W.fnOf "_law_time" "_law_time" (defArgs sTime) (defBody sTime) (defScope sTime) .none kV14 dc14 pm14 an14 cd14 ct14), sl14⟩) (c14 : PySem.W.codeIn K cd14 "_law_time" = true) (k14 : PySem.W.keepIn K (.ref f14) = true)
    (a15 : PySem.W.nsIn K mainGlobals "_law_seen" = some (some (.ref f15))) (l15 : K.lookup f15 = some ⟨oc15, od15, .func (PySem.W.fnOf "_law_seen" "_law_seen" (defArgs sSeen) (defBody sSeen) (defScope sSeen) .none kV15 dc15 pm15 an15 cd15 ct15), sl15⟩) (c15 : PySem.W.codeIn K cd15 "_law_seen" = true) (k15 : PySem.W.keepIn K (.ref f15) = true)
    (a16 : PySem.W.nsIn K mainGlobals "_law_same" = some (some (.ref f16))) (l16 : K.lookup f16 = some ⟨oc16, od16, .func (PySem.W.fnOf "_law_same" "_law_same" (defArgs sSame) (defBody sSame) (defScope sSame) .none kV16 dc16 pm16 an16 cd16 ct16), sl16⟩) (c16 : PySem.W.codeIn K cd16 "_law_same" = true) (k16 : PySem.W.keepIn K (.ref f16) = true)
    (a17 : PySem.W.nsIn K mainGlobals "_law_far" = some (some (.ref f17))) (l17 : K.lookup f17 = some ⟨oc17, od17, .func (PySem.W.fnOf "_law_far" "_law_far" (defArgs sFar) (defBody sFar) (defScope sFar) .none kV17 dc17 pm17 an17 cd17 ct17), sl17⟩) (c17 : PySem.W.codeIn K cd17 "_law_far" = true) (k17 : PySem.W.keepIn K (.ref f17) = true)
    (a18 : PySem.W.nsIn K mainGlobals "_law_due" = some (some (.ref f18))) (l18 : K.lookup f18 = some ⟨oc18, od18, .func (PySem.W.fnOf "_law_due" "_law_due" (defArgs sDue) (defBody sDue) (defScope sDue) .none kV18 dc18 pm18 an18 (.ref cD) ct18), sl18⟩) (c18 : PySem.W.codeIn K (.ref cD) "_law_due" = true) (k18 : PySem.W.keepIn K (.ref f18) = true)
    (a19 : PySem.W.nsIn K mainGlobals "law" = some (some (.ref f19))) (l19 : K.lookup f19 = some ⟨oc19, od19, .func (PySem.W.fnOf "law" "law" (defArgs sLaw) (defBody sLaw) (defScope sLaw) .none kV19 dc19 pm19 an19 (.ref cL) ct19), sl19⟩) (c19 : PySem.W.codeIn K (.ref cL) "law" = true) (k19 : PySem.W.keepIn K (.ref f19) = true)
    (lc : K.lookup cL = some ⟨ec, dc, .fields vc, slc⟩) (v11 : vc[11]? = some (.ref P0)) (hh : PySem.W.codeHdIn K cL P0 = true) (nP : K.lookup P0 = none) (pm : P0 ∈ ts)
    (lc1 : K.lookup cW = some ⟨ec1, dc_1, .fields vc1, slc1⟩) (v111 : vc1[11]? = some (.ref P1)) (hh1 : PySem.W.codeHdIn K cW P1 = true) (nP1 : K.lookup P1 = none)
    (np01 : P0 ≠ P1)
    (lc2 : K.lookup cD = some ⟨ec2, dc_2, .fields vc2, slc2⟩) (v112 : vc2[11]? = some (.ref P2)) (hh2 : PySem.W.codeHdIn K cD P2 = true) (nP2 : K.lookup P2 = none)
    (np02 : P0 ≠ P2)
    (np12 : P1 ≠ P2)
    (e0 : PySem.W.nsIn K mainGlobals "WrapError" = some (some (.ref E0)))
    (e1 : PySem.W.nsIn K mainGlobals "BadWheel" = some (some (.ref E1)))
    (e2 : PySem.W.nsIn K mainGlobals "BadRule" = some (some (.ref E2)))
    (e3 : PySem.W.nsIn K mainGlobals "BadSeen" = some (some (.ref E3)))
    (e4 : PySem.W.nsIn K mainGlobals "BadGaps" = some (some (.ref E4)))
    (e5 : PySem.W.nsIn K mainGlobals "BadSpan" = some (some (.ref E5)))
    (e6 : PySem.W.nsIn K mainGlobals "BadLong" = some (some (.ref E6)))
    (e7 : PySem.W.nsIn K mainGlobals "NoGap" = some (some (.ref E7)))
    (e8 : PySem.W.nsIn K mainGlobals "NoSpan" = some (some (.ref E8)))
    (sE : PySem.W.subIn K (.ref E0) (.type "BaseException") = some true) (dE : PySem.W.hasDictIn K E0 = true) (tE : PySem.W.typeIn K (.ref E0) = some (.type "type"))
    (i1 : PySem.W.isClsIn K E1 = true) (t1 : PySem.W.typeIn K (.ref E1) = some (.type "type"))
    (i2 : PySem.W.isClsIn K E2 = true) (t2 : PySem.W.typeIn K (.ref E2) = some (.type "type"))
    (i3 : PySem.W.isClsIn K E3 = true) (t3 : PySem.W.typeIn K (.ref E3) = some (.type "type"))
    (i4 : PySem.W.isClsIn K E4 = true) (t4 : PySem.W.typeIn K (.ref E4) = some (.type "type"))
    (i5 : PySem.W.isClsIn K E5 = true) (t5 : PySem.W.typeIn K (.ref E5) = some (.type "type"))
    (i6 : PySem.W.isClsIn K E6 = true) (t6 : PySem.W.typeIn K (.ref E6) = some (.type "type"))
    (i7 : PySem.W.isClsIn K E7 = true) (t7 : PySem.W.typeIn K (.ref E7) = some (.type "type"))
    (i8 : PySem.W.isClsIn K E8 = true) (t8 : PySem.W.typeIn K (.ref E8) = some (.type "type"))
    (sn : PySem.W.specialIn K (.builtin "object.__class__") "__get__" = some (some (.builtin "getset_descriptor.__get__"))) (st : PySem.W.takesIn K (.builtin "object.__class__") = some true)
    (x1g : PySem.W.findIn K (.ref E1) "__getattribute__" = some (some (.builtin "BaseException.__getattribute__"))) (x1k : PySem.W.findIn K (.ref E1) "__getattr__" = some none) (x1s : PySem.W.subIn K (.ref E1) (.type "BaseException") = some true) (x1d : PySem.W.hasDictIn K E1 = true) (x1a : PySem.W.findIn K (.ref E1) "__class__" = some (some (.builtin "object.__class__"))) (x1m : PySem.W.mroIn K E1 (.type "object") = some true) (x1v : PySem.W.subIn K (.ref E1) (.type "ValueError") = some true) (x1w : PySem.W.subIn K (.ref E1) (.ref E0) = some true) (x1e : PySem.W.excIn K E1 [.type "ValueError", .type "Exception", .type "BaseException", .type "object"] "ValueError.__new__" = true) (x1p : PySem.W.keepIn K (.ref E1) = true)
    (y11 : PySem.W.subIn K (.ref E1) (.ref E1) = some true)
    (y12 : PySem.W.subIn K (.ref E1) (.ref E2) = some false)
    (n12 : E1 ≠ E2)
    (y13 : PySem.W.subIn K (.ref E1) (.ref E3) = some false)
    (n13 : E1 ≠ E3)
    (y14 : PySem.W.subIn K (.ref E1) (.ref E4) = some false)
    (n14 : E1 ≠ E4)
    (y15 : PySem.W.subIn K (.ref E1) (.ref E5) = some false)
    (n15 : E1 ≠ E5)
    (y16 : PySem.W.subIn K (.ref E1) (.ref E6) = some false)
    (n16 : E1 ≠ E6)
    (y17 : PySem.W.subIn K (.ref E1) (.ref E7) = some false)
    (n17 : E1 ≠ E7)
    (y18 : PySem.W.subIn K (.ref E1) (.ref E8) = some false)
    (n18 : E1 ≠ E8)
    (x3g : PySem.W.findIn K (.ref E3) "__getattribute__" = some (some (.builtin "BaseException.__getattribute__"))) (x3k : PySem.W.findIn K (.ref E3) "__getattr__" = some none) (x3s : PySem.W.subIn K (.ref E3) (.type "BaseException") = some true) (x3d : PySem.W.hasDictIn K E3 = true) (x3a : PySem.W.findIn K (.ref E3) "__class__" = some (some (.builtin "object.__class__"))) (x3m : PySem.W.mroIn K E3 (.type "object") = some true) (x3v : PySem.W.subIn K (.ref E3) (.type "ValueError") = some true) (x3w : PySem.W.subIn K (.ref E3) (.ref E0) = some true) (x3e : PySem.W.excIn K E3 [.type "ValueError", .type "Exception", .type "BaseException", .type "object"] "ValueError.__new__" = true) (x3p : PySem.W.keepIn K (.ref E3) = true)
    (y31 : PySem.W.subIn K (.ref E3) (.ref E1) = some false)
    (n31 : E3 ≠ E1)
    (y32 : PySem.W.subIn K (.ref E3) (.ref E2) = some false)
    (n32 : E3 ≠ E2)
    (y33 : PySem.W.subIn K (.ref E3) (.ref E3) = some true)
    (y34 : PySem.W.subIn K (.ref E3) (.ref E4) = some false)
    (n34 : E3 ≠ E4)
    (y35 : PySem.W.subIn K (.ref E3) (.ref E5) = some false)
    (n35 : E3 ≠ E5)
    (y36 : PySem.W.subIn K (.ref E3) (.ref E6) = some false)
    (n36 : E3 ≠ E6)
    (y37 : PySem.W.subIn K (.ref E3) (.ref E7) = some false)
    (n37 : E3 ≠ E7)
    (y38 : PySem.W.subIn K (.ref E3) (.ref E8) = some false)
    (n38 : E3 ≠ E8)
    (x5g : PySem.W.findIn K (.ref E5) "__getattribute__" = some (some (.builtin "BaseException.__getattribute__"))) (x5k : PySem.W.findIn K (.ref E5) "__getattr__" = some none) (x5s : PySem.W.subIn K (.ref E5) (.type "BaseException") = some true) (x5d : PySem.W.hasDictIn K E5 = true) (x5a : PySem.W.findIn K (.ref E5) "__class__" = some (some (.builtin "object.__class__"))) (x5m : PySem.W.mroIn K E5 (.type "object") = some true) (x5v : PySem.W.subIn K (.ref E5) (.type "ValueError") = some true) (x5w : PySem.W.subIn K (.ref E5) (.ref E0) = some true) (x5e : PySem.W.excIn K E5 [.type "ValueError", .type "Exception", .type "BaseException", .type "object"] "ValueError.__new__" = true) (x5p : PySem.W.keepIn K (.ref E5) = true)
    (y51 : PySem.W.subIn K (.ref E5) (.ref E1) = some false)
    (n51 : E5 ≠ E1)
    (y52 : PySem.W.subIn K (.ref E5) (.ref E2) = some false)
    (n52 : E5 ≠ E2)
    (y53 : PySem.W.subIn K (.ref E5) (.ref E3) = some false)
    (n53 : E5 ≠ E3)
    (y54 : PySem.W.subIn K (.ref E5) (.ref E4) = some false)
    (n54 : E5 ≠ E4)
    (y55 : PySem.W.subIn K (.ref E5) (.ref E5) = some true)
    (y56 : PySem.W.subIn K (.ref E5) (.ref E6) = some false)
    (n56 : E5 ≠ E6)
    (y57 : PySem.W.subIn K (.ref E5) (.ref E7) = some false)
    (n57 : E5 ≠ E7)
    (y58 : PySem.W.subIn K (.ref E5) (.ref E8) = some false)
    (n58 : E5 ≠ E8)
    (x8g : PySem.W.findIn K (.ref E8) "__getattribute__" = some (some (.builtin "BaseException.__getattribute__"))) (x8k : PySem.W.findIn K (.ref E8) "__getattr__" = some none) (x8s : PySem.W.subIn K (.ref E8) (.type "BaseException") = some true) (x8d : PySem.W.hasDictIn K E8 = true) (x8a : PySem.W.findIn K (.ref E8) "__class__" = some (some (.builtin "object.__class__"))) (x8m : PySem.W.mroIn K E8 (.type "object") = some true) (x8v : PySem.W.subIn K (.ref E8) (.type "ValueError") = some true) (x8w : PySem.W.subIn K (.ref E8) (.ref E0) = some true) (x8e : PySem.W.excIn K E8 [.type "ValueError", .type "Exception", .type "BaseException", .type "object"] "ValueError.__new__" = true) (x8p : PySem.W.keepIn K (.ref E8) = true)
    (y81 : PySem.W.subIn K (.ref E8) (.ref E1) = some false)
    (n81 : E8 ≠ E1)
    (y82 : PySem.W.subIn K (.ref E8) (.ref E2) = some false)
    (n82 : E8 ≠ E2)
    (y83 : PySem.W.subIn K (.ref E8) (.ref E3) = some false)
    (n83 : E8 ≠ E3)
    (y84 : PySem.W.subIn K (.ref E8) (.ref E4) = some false)
    (n84 : E8 ≠ E4)
    (y85 : PySem.W.subIn K (.ref E8) (.ref E5) = some false)
    (n85 : E8 ≠ E5)
    (y86 : PySem.W.subIn K (.ref E8) (.ref E6) = some false)
    (n86 : E8 ≠ E6)
    (y87 : PySem.W.subIn K (.ref E8) (.ref E7) = some false)
    (n87 : E8 ≠ E7)
    (y88 : PySem.W.subIn K (.ref E8) (.ref E8) = some true)
    (u0 : PySem.W.nsIn K mainGlobals "LEAST_WHEEL" = some (some (.int 2 tk0)))
    (u1 : PySem.W.nsIn K mainGlobals "MOST_SEEN" = some (some (.int 60 tk1)))
    (v0 : ((("MOST_WHEEL" : Str), PySem.W.WData.int 1000000000000) : Str × PySem.W.WData) ∈ lv)
    (z0 : PySem.W.nsIn K mainGlobals "isinstance" = some none)
    (z1 : PySem.W.nsIn K mainGlobals "tuple" = some none)
    (z2 : PySem.W.nsIn K mainGlobals "list" = some none)
    (z3 : PySem.W.nsIn K mainGlobals "len" = some none)
    (z4 : PySem.W.nsIn K mainGlobals "range" = some none)
    (z5 : PySem.W.nsIn K mainGlobals "str" = some none)
    (z6 : PySem.W.nsIn K mainGlobals "bool" = some none)
    (z7 : PySem.W.nsIn K mainGlobals "int" = some none)
    (z8 : PySem.W.nsIn K mainGlobals "ValueError" = some none)
    (z9 : PySem.W.nsIn K mainGlobals "max" = some none)
    (z10 : PySem.W.nsIn K mainGlobals "min" = some none)
    (z11 : PySem.W.nsIn K mainGlobals "sorted" = some none)
    (z12 : PySem.W.nsIn K mainGlobals "set" = some none)
    (z13 : PySem.W.nsIn K mainGlobals "enumerate" = some none)
    (z14 : PySem.W.nsIn K mainGlobals "all" = some none) :
    LawAtS PySem.Challenge.rw_wraptime_k08_orders_within_a_span w K L2.CX0 9 63 "_law_script" mg fa h := by
  have e := hfa.symm.trans (PySem.W.mg_of X G a19)
  cases e
  have F0 := fun_mk (st := sIsWheel) l0 c0 k0
  have b0 := F0.binds (ps := ["number"]) fun _ _ _ _ _ _ us hl => match us, hl with | [_], _ => rfl
  have g0 := PySem.W.mg_of X G a0
  have F1 := fun_mk (st := sCheckWheel) l1 c1 k1
  have b1 := F1.binds (ps := ["wheel"]) fun _ _ _ _ _ _ us hl => match us, hl with | [_], _ => rfl
  have g1 := PySem.W.mg_of X G a1
  have F2 := fun_mk (st := sCheckSeen) l2 c2 k2
  have b2 := F2.binds (ps := ["wheel", "seen"]) fun _ _ _ _ _ _ us hl => match us, hl with | [_, _], _ => rfl
  have g2 := PySem.W.mg_of X G a2
  have F3 := fun_mk (st := sSince) l3 c3 k3
  have b3 := F3.binds (ps := ["wheel", "one", "other"]) fun _ _ _ _ _ _ us hl => match us, hl with | [_, _, _], _ => rfl
  have g3 := PySem.W.mg_of X G a3
  have F4 := fun_mk (st := sOrder) l4 c4 k4
  have b4 := F4.binds (ps := ["wheel", "one", "other"]) fun _ _ _ _ _ _ us hl => match us, hl with | [_, _, _], _ => rfl
  have g4 := PySem.W.mg_of X G a4
  have F5 := fun_mk (st := sCheckRow) l5 c5 k5
  have b5 := F5.binds (ps := ["wheel", "seen"]) fun _ _ _ _ _ _ us hl => match us, hl with | [_, _], _ => rfl
  have g5 := PySem.W.mg_of X G a5
  have F6 := fun_mk (st := sLie) l6 c6 k6
  have b6 := F6.binds (ps := ["wheel", "span", "begin", "seen"]) fun _ _ _ _ _ _ us hl => match us, hl with | [_, _, _, _], _ => rfl
  have g6 := PySem.W.mg_of X G a6
  have F7 := fun_mk (st := sPl) l7 c7 k7
  have b7 := F7.binds (ps := ["wheel", "begin", "seen"]) fun _ _ _ _ _ _ us hl => match us, hl with | [_, _, _], _ => rfl
  have g7 := PySem.W.mg_of X G a7
  have F8 := fun_mk (st := sArr) l8 c8 k8
  have b8 := F8.binds (ps := ["wheel", "span", "seen"]) fun _ _ _ _ _ _ us hl => match us, hl with | [_, _, _], _ => rfl
  have g8 := PySem.W.mg_of X G a8
  have F9 := fun_mk (st := sRing) l9 c9 k9
  have b9 := F9.binds (ps := ["wheel", "seen"]) fun _ _ _ _ _ _ us hl => match us, hl with | [_, _], _ => rfl
  have g9 := PySem.W.mg_of X G a9
  have F10 := fun_mk (st := sStart) l10 c10 k10
  have b10 := F10.binds (ps := ["_law_script"]) fun _ _ _ _ _ _ us hl => match us, hl with | [_], _ => rfl
  have g10 := PySem.W.mg_of X G a10
  have F11 := fun_mk (st := sDrawn) l11 c11 k11
  have b11 := F11.binds (ps := ["_law_state", "_law_many"]) fun _ _ _ _ _ _ us hl => match us, hl with | [_, _], _ => rfl
  have g11 := PySem.W.mg_of X G a11
  have F12 := fun_mk (st := sKind) l12 c12 k12
  have b12 := F12.binds (ps := ["_law_work"]) fun _ _ _ _ _ _ us hl => match us, hl with | [_], _ => rfl
  have g12 := PySem.W.mg_of X G a12
  have F13 := fun_mk (st := sWheel) l13 c13 k13
  have b13 := F13.binds (ps := ["_law_state"]) fun _ _ _ _ _ _ us hl => match us, hl with | [_], _ => rfl
  have g13 := PySem.W.mg_of X G a13
  have F14 := fun_mk (st := sTime) l14 c14 k14
  have b14 := F14.binds (ps := ["_law_state"]) fun _ _ _ _ _ _ us hl => match us, hl with | [_], _ => rfl
  have g14 := PySem.W.mg_of X G a14
  have F15 := fun_mk (st := sSeen) l15 c15 k15
  have b15 := F15.binds (ps := ["_law_state", "_law_wheel_here", "_law_most"]) fun _ _ _ _ _ _ us hl => match us, hl with | [_, _, _], _ => rfl
  have g15 := PySem.W.mg_of X G a15
  have F16 := fun_mk (st := sSame) l16 c16 k16
  have b16 := F16.binds (ps := ["_law_found", "_law_due_here"]) fun _ _ _ _ _ _ us hl => match us, hl with | [_, _], _ => rfl
  have g16 := PySem.W.mg_of X G a16
  have F17 := fun_mk (st := sFar) l17 c17 k17
  have b17 := F17.binds (ps := ["_law_state", "_law_least", "_law_most"]) fun _ _ _ _ _ _ us hl => match us, hl with | [_, _, _], _ => rfl
  have g17 := PySem.W.mg_of X G a17
  have F18 := fun_mk (st := sDue) l18 c18 k18
  have b18 := F18.binds (ps := ["_law_wheel_here", "_law_span", "_law_seen_here"]) fun _ _ _ _ _ _ us hl => match us, hl with | [_, _, _], _ => rfl
  have g18 := PySem.W.mg_of X G a18
  have F19 := fun_mk (st := sLaw) l19 c19 k19
  have b19 := F19.binds (ps := ["_law_script"]) fun _ _ _ _ _ _ us hl => match us, hl with | [_], _ => rfl
  have g19 := PySem.W.mg_of X G a19
  have te1 : h.get? P1 = some (PySem.W.tabObj #[]) := BR "_lie_within" (by decide +kernel) f6 g6 _ _ _ cW P1 vc1 l6 rfl rfl lc1 rfl v111
  have te2 : h.get? P2 = some (PySem.W.tabObj #[]) := BR "_law_due" (by decide +kernel) f18 g18 _ _ _ cD P2 vc2 l18 rfl rfl lc2 rfl v112
  have ge0 := PySem.W.mg_of X G e0
  have ge1 := PySem.W.mg_of X G e1
  have ge2 := PySem.W.mg_of X G e2
  have ge3 := PySem.W.mg_of X G e3
  have ge4 := PySem.W.mg_of X G e4
  have ge5 := PySem.W.mg_of X G e5
  have ge6 := PySem.W.mg_of X G e6
  have ge7 := PySem.W.mg_of X G e7
  have ge8 := PySem.W.mg_of X G e8
  have gu0 := PySem.W.mg_of X G u0
  have gu1 := PySem.W.mg_of X G u1
  obtain ⟨tv0, gv0⟩ := loose_int XL v0
  have gz0 := PySem.W.mg_none_of X G z0
  have gz1 := PySem.W.mg_none_of X G z1
  have gz2 := PySem.W.mg_none_of X G z2
  have gz3 := PySem.W.mg_none_of X G z3
  have gz4 := PySem.W.mg_none_of X G z4
  have gz5 := PySem.W.mg_none_of X G z5
  have gz6 := PySem.W.mg_none_of X G z6
  have gz7 := PySem.W.mg_none_of X G z7
  have gz8 := PySem.W.mg_none_of X G z8
  have gz9 := PySem.W.mg_none_of X G z9
  have gz10 := PySem.W.mg_none_of X G z10
  have gz11 := PySem.W.mg_none_of X G z11
  have gz12 := PySem.W.mg_none_of X G z12
  have gz13 := PySem.W.mg_none_of X G z13
  have gz14 := PySem.W.mg_none_of X G z14
  let Cs : _root_.Fin 8 → Addr := fun i => match i with | 0 => E1 | 1 => E2 | 2 => E3 | 3 => E4 | 4 => E5 | 5 => E6 | 6 => E7 | 7 => E8
  have N9 : Nine mg E0 Cs := ⟨ge0, ge1, ge2, ge3, ge4, ge5, ge6, ge7, ge8, gz0, gz8⟩
  have kd1 : Kd K E0 Cs E1 0 := Kd.of (Cs := Cs) (j := 0) ⟨⟨x1g, x1k, x1s, x1d, x1a, sn, st, x1m⟩, i1, t1, x1v⟩ sE dE tE x1w (fun i => match i with | 0 => i1 | 1 => i2 | 2 => i3 | 3 => i4 | 4 => i5 | 5 => i6 | 6 => i7 | 7 => i8) (fun i => match i with | 0 => t1 | 1 => t2 | 2 => t3 | 3 => t4 | 4 => t5 | 5 => t6 | 6 => t7 | 7 => t8)
    (fun i => match i with | 0 => y11 | 1 => y12 | 2 => y13 | 3 => y14 | 4 => y15 | 5 => y16 | 6 => y17 | 7 => y18) (fun i => match i with | 0 => fun _ => rfl | 1 => fun z => absurd z n12 | 2 => fun z => absurd z n13 | 3 => fun z => absurd z n14 | 4 => fun z => absurd z n15 | 5 => fun z => absurd z n16 | 6 => fun z => absurd z n17 | 7 => fun z => absurd z n18)
  have rf1 : Rf K mg "BadWheel" E1 := ⟨ge1, x1e, x1p, x1s, t1⟩
  have kd3 : Kd K E0 Cs E3 2 := Kd.of (Cs := Cs) (j := 2) ⟨⟨x3g, x3k, x3s, x3d, x3a, sn, st, x3m⟩, i3, t3, x3v⟩ sE dE tE x3w (fun i => match i with | 0 => i1 | 1 => i2 | 2 => i3 | 3 => i4 | 4 => i5 | 5 => i6 | 6 => i7 | 7 => i8) (fun i => match i with | 0 => t1 | 1 => t2 | 2 => t3 | 3 => t4 | 4 => t5 | 5 => t6 | 6 => t7 | 7 => t8)
    (fun i => match i with | 0 => y31 | 1 => y32 | 2 => y33 | 3 => y34 | 4 => y35 | 5 => y36 | 6 => y37 | 7 => y38) (fun i => match i with | 0 => fun z => absurd z n31 | 1 => fun z => absurd z n32 | 2 => fun _ => rfl | 3 => fun z => absurd z n34 | 4 => fun z => absurd z n35 | 5 => fun z => absurd z n36 | 6 => fun z => absurd z n37 | 7 => fun z => absurd z n38)
  have rf3 : Rf K mg "BadSeen" E3 := ⟨ge3, x3e, x3p, x3s, t3⟩
  have kd5 : Kd K E0 Cs E5 4 := Kd.of (Cs := Cs) (j := 4) ⟨⟨x5g, x5k, x5s, x5d, x5a, sn, st, x5m⟩, i5, t5, x5v⟩ sE dE tE x5w (fun i => match i with | 0 => i1 | 1 => i2 | 2 => i3 | 3 => i4 | 4 => i5 | 5 => i6 | 6 => i7 | 7 => i8) (fun i => match i with | 0 => t1 | 1 => t2 | 2 => t3 | 3 => t4 | 4 => t5 | 5 => t6 | 6 => t7 | 7 => t8)
    (fun i => match i with | 0 => y51 | 1 => y52 | 2 => y53 | 3 => y54 | 4 => y55 | 5 => y56 | 6 => y57 | 7 => y58) (fun i => match i with | 0 => fun z => absurd z n51 | 1 => fun z => absurd z n52 | 2 => fun z => absurd z n53 | 3 => fun z => absurd z n54 | 4 => fun _ => rfl | 5 => fun z => absurd z n56 | 6 => fun z => absurd z n57 | 7 => fun z => absurd z n58)
  have rf5 : Rf K mg "BadSpan" E5 := ⟨ge5, x5e, x5p, x5s, t5⟩
  have kd8 : Kd K E0 Cs E8 7 := Kd.of (Cs := Cs) (j := 7) ⟨⟨x8g, x8k, x8s, x8d, x8a, sn, st, x8m⟩, i8, t8, x8v⟩ sE dE tE x8w (fun i => match i with | 0 => i1 | 1 => i2 | 2 => i3 | 3 => i4 | 4 => i5 | 5 => i6 | 6 => i7 | 7 => i8) (fun i => match i with | 0 => t1 | 1 => t2 | 2 => t3 | 3 => t4 | 4 => t5 | 5 => t6 | 6 => t7 | 7 => t8)
    (fun i => match i with | 0 => y81 | 1 => y82 | 2 => y83 | 3 => y84 | 4 => y85 | 5 => y86 | 6 => y87 | 7 => y88) (fun i => match i with | 0 => fun z => absurd z n81 | 1 => fun z => absurd z n82 | 2 => fun z => absurd z n83 | 3 => fun z => absurd z n84 | 4 => fun z => absurd z n85 | 5 => fun z => absurd z n86 | 6 => fun z => absurd z n87 | 7 => fun _ => rfl)
  have rf8 : Rf K mg "NoSpan" E8 := ⟨ge8, x8e, x8p, x8s, t8⟩
  refine ⟨PySem.W.fnOf "law" "law" (defArgs sLaw) (defBody sLaw) (defScope sLaw) .none kV19 dc19 pm19 an19 (.ref cL) ct19, [(cL, P0), (cW, P1), (cD, P2)], spLaw K P0 P1 P2, fun p hp => ?_, fun p hp => ?_, fun p hp => ?_, fun s u => .of_eq rfl, fun H a ns _ _ hT hS => ?_, fun base hB hG hTB => ?_⟩
  · rcases List.mem_cons.mp hp with h | hp
    · rw [h]; exact tabs P0 pm
    · rcases List.mem_cons.mp hp with h | hp
      · rw [h]; exact te1
      · rw [List.mem_singleton.mp hp]; exact te2
  · rcases List.mem_cons.mp hp with h | hp
    · rw [h]; exact nP
    · rcases List.mem_cons.mp hp with h | hp
      · rw [h]; exact nP1
      · rw [List.mem_singleton.mp hp]; exact nP2
  · rcases List.mem_cons.mp hp with h | hp
    · rw [h]; exact PySem.W.codeHd_of_K X hh
    · rcases List.mem_cons.mp hp with h | hp
      · rw [h]; exact PySem.W.codeHd_of_K X hh1
      · rw [List.mem_singleton.mp hp]; exact PySem.W.codeHd_of_K X hh2
  · refine ⟨a, ns, rfl, hS, fun p hp => ?_, ⟨#[], hT (cW, P1) (List.mem_cons_of_mem _ List.mem_cons_self), True.intro⟩, fun _ => rfl⟩
    rcases List.mem_cons.mp hp with h | h
    · rw [h]; exact TabS.nil (hT (cL, P0) List.mem_cons_self)
    · rw [List.mem_singleton.mp h]; exact TabS.nil (hT (cD, P2) (List.mem_cons_of_mem _ (List.mem_cons_of_mem _ List.mem_cons_self)))
  · have TB := hTB (cL, P0) List.mem_cons_self
    have TB1 := hTB (cW, P1) (List.mem_cons_of_mem _ List.mem_cons_self)
    have TB2 := hTB (cD, P2) (List.mem_cons_of_mem _ (List.mem_cons_of_mem _ List.mem_cons_self))
    have B : Bl mg := ⟨gz0, gz1, gz2, gz3, gz4, gz5, gz6, gz7⟩
    have hU2 : ∀ p ∈ TT P0 P2, p.1 = P2 → p.2 = lqD := fun p hp e => by
      rcases List.mem_cons.mp hp with h | h
      · rw [h] at e; exact absurd e np02
      · rw [List.mem_singleton.mp h]
    have D0 := Kn.of F0 (ok_isWheel (P := PySem.Challenge.rw_wraptime_k08_orders_within_a_span.prog) (w := w) (base := base) (k := 0) F0 gu0 gv0) g0 b0
    have Dcw := Kn.of F1 (ok_checkWheel (k := 1) F1 D0 (by decide) rf1) g1 b1
    have D1 := Kn.of F1 (ok_checkWheel (k := 3) F1 D0 (by decide) rf1) g1 b1
    have D2 := Kn.of F2 (ok_checkSeen (P := PySem.Challenge.rw_wraptime_k08_orders_within_a_span.prog) (w := w) (base := base) (k := 0) F2 rf3) g2 b2
    have D3 := Kn.of F3 (ok_since (k := 2) F3 Dcw D2 (by decide) (by decide)) g3 b3
    have D4 := Kn.of F4 (ok_order (k := 3) F4 D3 (by decide)) g4 b4
    have D5 := Kn.of F5 (ok_checkRow (k := 3) F5 D2 (by decide) gz3 gu1 rf3) g5 b5
    have D9 := Kn.of F9 (ok_ring (k := 4) F9 D1 D5 D4 (by decide) B) g9 b9
    have QS : Mod K mg base → ∀ n a b, Wh n → Sn n a → Sn n b → Qz.QFn PySem.Challenge.rw_wraptime_k08_orders_within_a_span.prog w base 3 f3 [.int n, .int a, .int b] (.int ((b - a) % n)) := fun M n a b hn ha hb =>
      q_since F3 b3 M g1 k1 g2 k2 (by have := hn.1; omega) (q_checkWheel F1 b1 M g0 k0 (q_isWheel F0 b0 M gu0 gv0 hn)) (q_checkSeen F2 b2 M ha) (q_checkSeen F2 b2 M hb)
    have D6 := Kn.of F6 (ok_lie (k := 4) l6 c6 TB1 gz14 g3 k3 (by decide) QS) g6 b6
    have D7 := Kn.of F7 (ok_places (k := 3) F7 D3 (by decide) gz11 gz13) g7 b7
    have D8 := Kn.of F8 (ok_arr (k := 5) F8 D1 D5 D6 D7 (by decide) (by decide) gz3 gz11 gz12 rf5 rf8) g8 b8
    have D10 := Kn.of F10 (ok_start (P := PySem.Challenge.rw_wraptime_k08_orders_within_a_span.prog) (w := w) (base := base) (mg := mg) (k := 0) F10) g10 b10
    have D11 := Kn.of F11 (ok_drawn (P := PySem.Challenge.rw_wraptime_k08_orders_within_a_span.prog) (w := w) (base := base) (k := 0) F11 B.len) g11 b11
    have Ddr2 := Kn.of F11 (ok_drawn (P := PySem.Challenge.rw_wraptime_k08_orders_within_a_span.prog) (w := w) (base := base) (k := 1) F11 B.len) g11 b11
    have D13 := Kn.of F13 (ok_wheel (k := 1) F13 D11 (by decide)) g13 b13
    have D17 := Kn.of F17 (ok_far (k := 1) F17 D11 (by decide)) g17 b17
    have D14 := Kn.of F14 (ok_time (k := 1) F14 D11 (by decide)) g14 b14
    have D15 := Kn.of F15 (ok_seen (k := 2) F15 B.rng Ddr2 D14 (by decide)) g15 b15
    have S0 := Kn.of F16 (no_ok (P := PySem.Challenge.rw_wraptime_k08_orders_within_a_span.prog) (w := w) (K := K) (mg := mg) (base := base) (ps := ["_law_found", "_law_due_here"])) g16 b16
    have S1 := Kn.of F16 (ok_same (k := 0) F16 B S0 (by decide)) g16 b16
    have D16 := Kn.of F16 (ok_same (k := 1) F16 B S1 (by decide)) g16 b16
    have D18 := Kn.of F18 (ok_due (P := PySem.Challenge.rw_wraptime_k08_orders_within_a_span.prog) (w := w) (base := base) (k := 3) l18 c18 TB2 (List.mem_cons_of_mem _ List.mem_cons_self) hU2 B gz9 gz11) g18 b18
    have GK := ok_kind (P := PySem.Challenge.rw_wraptime_k08_orders_within_a_span.prog) (w := w) (base := base) (k := 7) (j := 7) F12 b12 N9 (by decide)
    exact ok_law l19 c19 TB np01 np12.symm np02.symm B gz9 gz10 D10 D11 D13 D15 D16 D17 D18 D8 D9 GK g12 k12 kd3 kd5 kd8
end K8
open PySem PySem.W PyProof.Rows
set_option maxHeartbeats 0 in
theorem PySem.Challenge.cw_wraptime_k08_orders_within_a_span_holds : PySem.Challenge.rw_wraptime_k08_orders_within_a_span.Holds := by
  w_on; o_law; k_head; (case hw => w_witness2)
  k_fill
  refine Lx.walk_ofB (l := PySem.Challenge.rw_wraptime_k08_orders_within_a_span) (n := 63) (k := 9) (x := "_law_script") (CX := fun _ => L2.CX0) ["_lie_within", "_law_due"] (by decide +kernel) rfl (by decide) rfl ⟨rfl, by decide, by decide⟩ (fun w h Y => PySem.W.km_in_of Y) ?F (fun _ _ _ _ _ h => h)
  case F =>
    intro w mg fa h Y XL KX G hmg BR
    refine' K8.all_mk KX G hmg (PySem.W.km_tabs_of Y) XL BR ?a0 ?l0 ?c0 ?k0 ?a1 ?l1 ?c1 ?k1 ?a2 ?l2 ?c2 ?k2 ?a3 ?l3 ?c3 ?k3 ?a4 ?l4 ?c4 ?k4 ?a5 ?l5 ?c5 ?k5 ?a6 ?l6 ?c6 ?k6 ?a7 ?l7 ?c7 ?k7 ?a8 ?l8 ?c8 ?k8 ?a9 ?l9 ?c9 ?k9 ?a10 ?l10 ?c10 ?k10 ?a11 ?l11 ?c11 ?k11 ?a12 ?l12 ?c12 ?k12 ?a13 ?l13 ?c13 ?k13 ?a14 ?l14 ?c14 ?k14 ?a15 ?l15 ?c15 ?k15 ?a16 ?l16 ?c16 ?k16 ?a17 ?l17 ?c17 ?k17 ?a18 ?l18 ?c18 ?k18 ?a19 ?l19 ?c19 ?k19 ?lc ?v11 ?hh ?nP ?pm ?lc1 ?v111 ?hh1 ?nP1 ?np01 ?lc2 ?v112 ?hh2 ?nP2 ?np02 ?np12 ?e0 ?e1 ?e2 ?e3 ?e4 ?e5 ?e6 ?e7 ?e8 ?sE ?dE ?tE ?i1 ?t1 ?i2 ?t2 ?i3 ?t3 ?i4 ?t4 ?i5 ?t5 ?i6 ?t6 ?i7 ?t7 ?i8 ?t8 ?sn ?st ?x1g ?x1k ?x1s ?x1d ?x1a ?x1m ?x1v ?x1w ?x1e ?x1p ?y11 ?y12 ?n12 ?y13 ?n13 ?y14 ?n14 ?y15 ?n15 ?y16 ?n16 ?y17 ?n17 ?y18 ?n18 ?x3g ?x3k ?x3s ?x3d ?x3a ?x3m ?x3v ?x3w ?x3e ?x3p ?y31 ?n31 ?y32 ?n32 ?y33 ?y34 ?n34 ?y35 ?n35 ?y36 ?n36 ?y37 ?n37 ?y38 ?n38 ?x5g ?x5k ?x5s ?x5d ?x5a ?x5m ?x5v ?x5w ?x5e ?x5p ?y51 ?n51 ?y52 ?n52 ?y53 ?n53 ?y54 ?n54 ?y55 ?y56 ?n56 ?y57 ?n57 ?y58 ?n58 ?x8g ?x8k ?x8s ?x8d ?x8a ?x8m ?x8v ?x8w ?x8e ?x8p ?y81 ?n81 ?y82 ?n82 ?y83 ?n83 ?y84 ?n84 ?y85 ?n85 ?y86 ?n86 ?y87 ?n87 ?y88 ?u0 ?u1 ?v0 ?z0 ?z1 ?z2 ?z3 ?z4 ?z5 ?z6 ?z7 ?z8 ?z9 ?z10 ?z11 ?z12 ?z13 ?z14
    (case a0 => k_is); (case l0 => k_is); (case c0 => k_is); (case k0 => k_is); (case a1 => k_is); (case l1 => k_is); (case c1 => k_is); (case k1 => k_is); (case a2 => k_is); (case l2 => k_is); (case c2 => k_is); (case k2 => k_is); (case a3 => k_is); (case l3 => k_is); (case c3 => k_is); (case k3 => k_is); (case a4 => k_is); (case l4 => k_is); (case c4 => k_is); (case k4 => k_is); (case a5 => k_is); (case l5 => k_is); (case c5 => k_is); (case k5 => k_is); (case a6 => k_is); (case l6 => k_is); (case c6 => k_is); (case k6 => k_is); (case a7 => k_is); (case l7 => k_is); (case c7 => k_is); (case k7 => k_is); (case a8 => k_is); (case l8 => k_is); (case c8 => k_is); (case k8 => k_is); (case a9 => k_is); (case l9 => k_is); (case c9 => k_is); (case k9 => k_is); (case a10 => k_is); (case l10 => k_is); (case c10 => k_is); (case k10 => k_is); (case a11 => k_is); (case l11 => k_is); (case c11 => k_is); (case k11 => k_is); (case a12 => k_is); (case l12 => k_is); (case c12 => k_is); (case k12 => k_is); (case a13 => k_is); (case l13 => k_is); (case c13 => k_is); (case k13 => k_is); (case a14 => k_is); (case l14 => k_is); (case c14 => k_is); (case k14 => k_is); (case a15 => k_is); (case l15 => k_is); (case c15 => k_is); (case k15 => k_is); (case a16 => k_is); (case l16 => k_is); (case c16 => k_is); (case k16 => k_is); (case a17 => k_is); (case l17 => k_is); (case c17 => k_is); (case k17 => k_is); (case a18 => k_is); (case l18 => k_is); (case c18 => k_is); (case k18 => k_is); (case a19 => k_is); (case l19 => k_is); (case c19 => k_is); (case k19 => k_is); (case lc => k_is); (case v11 => rfl); (case hh => kernel_rfl); (case nP => kernel_rfl); (case pm => decide); (case lc1 => k_is); (case v111 => rfl); (case hh1 => kernel_rfl); (case nP1 => kernel_rfl); (case np01 => decide); (case lc2 => k_is); (case v112 => rfl); (case hh2 => kernel_rfl); (case nP2 => kernel_rfl); (case np02 => decide); (case np12 => decide); (case e0 => k_is); (case e1 => k_is); (case e2 => k_is); (case e3 => k_is); (case e4 => k_is); (case e5 => k_is); (case e6 => k_is); (case e7 => k_is); (case e8 => k_is); (case sE => k_is); (case dE => k_is); (case tE => k_is); (case i1 => k_is); (case t1 => k_is); (case i2 => k_is); (case t2 => k_is); (case i3 => k_is); (case t3 => k_is); (case i4 => k_is); (case t4 => k_is); (case i5 => k_is); (case t5 => k_is); (case i6 => k_is); (case t6 => k_is); (case i7 => k_is); (case t7 => k_is); (case i8 => k_is); (case t8 => k_is); (case sn => k_is); (case st => k_is); (case x1g => k_is); (case x1k => k_is); (case x1s => k_is); (case x1d => k_is); (case x1a => k_is); (case x1m => k_is); (case x1v => k_is); (case x1w => k_is); (case x1e => k_exc); (case x1p => k_is); (case y11 => k_is); (case y12 => k_is); (case n12 => decide); (case y13 => k_is); (case n13 => decide); (case y14 => k_is); (case n14 => decide); (case y15 => k_is); (case n15 => decide); (case y16 => k_is); (case n16 => decide); (case y17 => k_is); (case n17 => decide); (case y18 => k_is); (case n18 => decide); (case x3g => k_is); (case x3k => k_is); (case x3s => k_is); (case x3d => k_is); (case x3a => k_is); (case x3m => k_is); (case x3v => k_is); (case x3w => k_is); (case x3e => k_exc); (case x3p => k_is); (case y31 => k_is); (case n31 => decide); (case y32 => k_is); (case n32 => decide); (case y33 => k_is); (case y34 => k_is); (case n34 => decide); (case y35 => k_is); (case n35 => decide); (case y36 => k_is); (case n36 => decide); (case y37 => k_is); (case n37 => decide); (case y38 => k_is); (case n38 => decide); (case x5g => k_is); (case x5k => k_is); (case x5s => k_is); (case x5d => k_is); (case x5a => k_is); (case x5m => k_is); (case x5v => k_is); (case x5w => k_is); (case x5e => k_exc); (case x5p => k_is); (case y51 => k_is); (case n51 => decide); (case y52 => k_is); (case n52 => decide); (case y53 => k_is); (case n53 => decide); (case y54 => k_is); (case n54 => decide); (case y55 => k_is); (case y56 => k_is); (case n56 => decide); (case y57 => k_is); (case n57 => decide); (case y58 => k_is); (case n58 => decide); (case x8g => k_is); (case x8k => k_is); (case x8s => k_is); (case x8d => k_is); (case x8a => k_is); (case x8m => k_is); (case x8v => k_is); (case x8w => k_is); (case x8e => k_exc); (case x8p => k_is); (case y81 => k_is); (case n81 => decide); (case y82 => k_is); (case n82 => decide); (case y83 => k_is); (case n83 => decide); (case y84 => k_is); (case n84 => decide); (case y85 => k_is); (case n85 => decide); (case y86 => k_is); (case n86 => decide); (case y87 => k_is); (case n87 => decide); (case y88 => k_is); (case u0 => k_is); (case u1 => k_is); (case v0 => repeat (first | exact List.Mem.head _ | apply List.Mem.tail)); (case z0 => k_is); (case z1 => k_is); (case z2 => k_is); (case z3 => k_is); (case z4 => k_is); (case z5 => k_is); (case z6 => k_is); (case z7 => k_is); (case z8 => k_is); (case z9 => k_is); (case z10 => k_is); (case z11 => k_is); (case z12 => k_is); (case z13 => k_is); (case z14 => k_is)


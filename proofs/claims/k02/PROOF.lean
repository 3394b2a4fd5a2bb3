import PyProof.Rows.All
import Wide.All
import OpenK.AllK
import Wide.FinOn
import HandS.ForMost
import HandS.ForExc
import HandS.Codes
import HandS.Lambda
import HandS.Nested
import HandS.EndTab
import HandS.ExcIs
import HandS.IsInst
import HandS.RaiseMore
import HandS.FStr
import HandS.Wide
import HandS.SetFor
import KE.KNestM
import HandS.Gcd
import KE.KMathGC
import HandS.CallSlots
import HandS.Defaults
import HandS.Flow
import HandS.NoneIn
import HandS.Comp
import PySem.Challenge.RW_wraptime_k02_rules_looked_at
set_option Elab.async false
set_option linter.all false
set_option maxRecDepth 100000
set_option maxHeartbeats 8000000
namespace Lx
open PySem PySem.Spec PyProof.Rows L2 LamX NdefX
/-! ### lambdas as values -/
/-- the object at f is the lambda F (its body eb) -/
def LmO (f : Addr) (F : NF) (eb : Expr) : HO := .ext fun h => ∃ pm ctv : Value,
  h.get? f = some (PySem.W.kla_obj "<lambda>" F.qual F.params eb F.scope F.cl pm F.c ctv)
theorem lmO_at {P : Program} {w : World} {H : Hp} {h : Heap} {f : Addr} {F : NF} {eb : Expr}
    (ok : HOk P w H h) (e : H f = some (LmO f F eb)) :
    ∃ pm ctv : Value, h.get? f = some (PySem.W.kla_obj "<lambda>" F.qual F.params eb F.scope F.cl pm F.c ctv) :=
  (ok f _ e).1
theorem lmO_ne {f : Addr} {F : NF} {eb : Expr} (ps : Array Value) : LmO f F eb ≠ .tbl ps := fun z => by
  unfold LmO at z; cases z
/-- the lambda as it is made in X -/
abbrev lamNF (X : Cx) (params : Arguments) (scope : Scope) (c' : Addr) : NF :=
  ⟨"<lambda>", X.env.qual ++ "<lambda>", params, [], scope, cloFrom X.env.cells scope.names [], c'⟩
section
variable {X : Cx} {pins : List (Addr × Obj)} {σ : L2.St} {H : Hp} {s : Shared}
theorem inv_lm {F : NF} {eb : Expr} {pm ctv : Value} {tk : Nat} (I : Inv X pins σ H s) :
    Inv X pins σ (upd H s.heap.objs.size (LmO s.heap.objs.size F eb))
      { s with heap := s.heap.push (PySem.W.kla_obj "<lambda>" F.qual F.params eb F.scope F.cl pm F.c ctv), toks := tk } := by
  refine I.laid (a := s.heap.objs.size) (fun b u e => Heap.get?_push_of_some _ e) (Nat.le_refl _) ?_
  have at_ : (s.heap.push (PySem.W.kla_obj "<lambda>" F.qual F.params eb F.scope F.cl pm F.c ctv)).get? s.heap.objs.size
      = some (PySem.W.kla_obj "<lambda>" F.qual F.params eb F.scope F.cl pm F.c ctv) := Heap.get?_push_size _ rfl
  exact ⟨⟨pm, ctv, at_⟩, ⟨_, at_⟩, fun h1 h2 ⟨p, t, z⟩ st => ⟨p, t, st _ z⟩⟩
/-- a lambda is made and tracked -/
theorem lam_mk {T : List (Addr × Str)} {c P : Addr} {params : Arguments} {body : Expr} {scope : Scope} {pos : Pos}
    {E : Value → Shared → Prop} {Q : Value → Shared → Prop} (I : Inv X pins σ H s) (TB : TabB X.base X.mg c P)
    (hcode : X.env.code = .ref c) (hm : (P, X.env.qual ++ "<lambda>") ∈ T)
    (hu : ∀ p ∈ T, p.1 = P → p.2 = X.env.qual ++ "<lambda>") (hT : Tabs T H) (hdef : defaultsOf params X.env = ([], []))
    (hfree : ∀ y ∈ scope.names, y.2 = .free → ∃ c, X.env.cells.lookup y.1 = some c)
    (h : ∀ (f c' : Addr) (H1 : Hp) (s' : Shared), Inv X pins σ H1 s' → ExtN H H1 → Tabs T H1 → H f = none →
      H1 f = some (LmO f (lamNF X params scope c') body) → H1 c' = some (CodeO c' (X.env.qual ++ "<lambda>")) → Q (.ref f) s') :
    wpAny (model X.prog X.w) X.A (eval (.Lambda params body scope pos) X.env) Q E s := by
  obtain ⟨ps, hP, ht, ha⟩ := hT _ hm
  have bP := TB.bm.keeps I.bk
  have gP : s.heap.get? P = some { cls := .none, data := .fields ps } := I.hok P _ hP
  have code := TB.code.keeps I.bk
  have glob := I.mod.glob.keeps I.bk
  refine PySem.W.kla_eval hdef ?_
  cases hc : codeAmong pos ps.toList with
  | some cv =>
    obtain ⟨c', rfl, hco⟩ := ha pos cv hc
    refine PySem.W.kla_makeFunctionHit (mg := X.mg) (c := c) (P := P) (ps := ps) (closure_ok hfree) I.ok.glob glob hcode code gP ht hc bP ?_
    intro ctv h' tk old hsz
    have J : Inv X pins σ H { s with heap := h', toks := tk } := I.kept old
    have nF : H h'.objs.size = none := J.hok.fresh (Nat.le_refl _)
    have keep : ∀ b o, H b = some o → (upd H h'.objs.size (LmO h'.objs.size (lamNF X params scope c') body)) b = some o := by
      intro b o e
      exact (upd_ne (ne_of_none e nF)).trans e
    refine h h'.objs.size c' _ _ (inv_lm (F := lamNF X params scope c') (eb := body) (tk := tk) J) (ExtN.of keep) (hT.ext keep) nF upd_same (keep _ _ hco)
  | none =>
    refine PySem.W.kla_makeFunction (mg := X.mg) (c := c) (P := P) (ps := ps) (closure_ok hfree) I.ok.glob glob hcode code gP ht hc TB.gP bP ?_
    intro c' ctv h' tk hx hge hlt hrec htb
    obtain ⟨c2, oc, vs, t, e2, hoc, hd, hv⟩ := hrec
    cases e2
    have nC : H c' = none := I.hok.fresh hge
    have J := inv_table (t' := tk) (more := #[rawInt pos.line, rawInt pos.col, .ref c']) (h' := h') I hP
      (fun b o hb e => hx b o hb e) htb hge ⟨oc, vs, t, hoc, hd, hv⟩
    generalize hH1 : upd (upd H P (.tbl (ps ++ #[rawInt pos.line, rawInt pos.col, .ref c']))) c' (CodeO c' (X.env.qual ++ "<lambda>")) = H1 at J
    have ePc : P ≠ c' := ne_of_none hP nC
    have atc : H1 c' = some (CodeO c' (X.env.qual ++ "<lambda>")) := by rw [← hH1]; exact upd_same
    have atP : H1 P = some (.tbl (ps ++ #[rawInt pos.line, rawInt pos.col, .ref c'])) := by
      rw [← hH1, upd_ne ePc, upd_same]
    have ext : ExtN H H1 := by
      intro b o e n
      have h1 : b ≠ P := fun z => n ps (Option.some.inj (e.symm.trans (by rw [z]; exact hP)))
      rw [← hH1, upd_ne (ne_of_none e nC), upd_ne h1]
      exact e
    have nF : H1 h'.objs.size = none := J.hok.fresh (Nat.le_refl _)
    have nF0 : H h'.objs.size = none := I.hok.fresh (Nat.le_trans hge (Nat.le_of_lt hlt))
    have T1 : Tabs T H1 := by
      intro p hp
      by_cases hb : p.1 = P
      · have hl : (ps ++ #[rawInt pos.line, rawInt pos.col, Value.ref c']).toList = ps.toList ++ [rawInt pos.line, rawInt pos.col, Value.ref c'] := by simp
        rw [hu p hp hb, hb]
        refine ⟨_, atP, ?_, ?_⟩
        · rw [hl]
          exact PySem.TriplesOk_snoc _ _ _ _ ht
        · intro p' cv hcv
          rw [hl] at hcv
          rcases among_app _ ht hcv with z | z
          · obtain ⟨c0, e1, e2⟩ := ha p' cv z
            exact ⟨c0, e1, ext _ _ e2 codeO_ne⟩
          · exact ⟨c', z, atc⟩
      · obtain ⟨ps', a1, a2, a3⟩ := hT p hp
        have a1' : H1 p.1 = some (.tbl ps') := by
          rw [← hH1, upd_ne (ne_of_none a1 nC), upd_ne hb]
          exact a1
        refine ⟨ps', a1', a2, fun p' cv hcv => ?_⟩
        obtain ⟨c0, e1, e2⟩ := a3 p' cv hcv
        exact ⟨c0, e1, ext _ _ e2 codeO_ne⟩
    have keep : ∀ b o, H1 b = some o → (upd H1 h'.objs.size (LmO h'.objs.size (lamNF X params scope c') body)) b = some o := by
      intro b o e
      exact (upd_ne (ne_of_none e nF)).trans e
    refine h h'.objs.size c' _ _ (inv_lm (F := lamNF X params scope c') (eb := body) (tk := tk) J) (fun b o e n => keep _ _ (ext b o e n)) (T1.ext keep) nF0 upd_same (keep _ _ atc)
end
/-- lambda: body, as a value -/
def tLm (X : Cx) (T : List (Addr × Str)) (params : Arguments) (body : Expr) (scope : Scope) : TE := fun _ H Q =>
  Tabs T H ∧ ∀ (f c' : Addr) (H1 : Hp), ExtN H H1 → Tabs T H1 → H f = none → H1 f = some (LmO f (lamNF X params scope c') body) →
    H1 c' = some (CodeO c' (X.env.qual ++ "<lambda>")) → Q (.ref f) H1
theorem pe_lm {X : Cx} {T : List (Addr × Str)} {c P : Addr} {params : Arguments} {body : Expr} {scope : Scope} {pos : Pos}
    (TB : TabB X.base X.mg c P) (hcode : X.env.code = .ref c) (hm : (P, X.env.qual ++ "<lambda>") ∈ T)
    (hu : ∀ p ∈ T, p.1 = P → p.2 = X.env.qual ++ "<lambda>") (hsc : LamS X.env.scope scope)
    (hdef : defaultsOf params X.env = ([], []) := by rfl) :
    PE X (.Lambda params body scope pos) (tLm X T params body scope) := by
  refine ⟨fun pins s σ H Q I h => ?_⟩
  obtain ⟨hT, h⟩ := h
  refine lam_mk I TB hcode hm hu hT hdef (hsc.has I.ok) ?_
  intro f c' H1 s' I1 x t n e1 e2
  exact ⟨.ref f, H1, I1, rfl, h f c' H1 x t n e1 e2⟩
/-! ### what a lambda promises -/
structure LOk (P : Program) (w : World) (K : PySem.W.Frag) (mg : Str → Option Value) (base : Heap) (CX : CXT) (k : Nat)
    (f : Addr) (F : NF) (eb : Expr) (fr : List Str) (sp : List (Option V) → Hp → VK → XK → Prop) : Prop where
  run : ∀ (A : Around) (outer : List Env) (s : Shared) (H : Hp) (ws : List (Option V)) (Q : VK) (E : XK),
    Room k A → Env0 P w K mg base A outer s H → H f = some (LmO f F eb) → H F.c = some (CodeO F.c F.qual) →
    CellsAt F.cl fr ws s.heap H → sp ws H Q E → codeAny (model P w) A (.call (.ref f) ⟨[], []⟩) (CR CX outer P w H s Q E) s
theorem lok_of {P : Program} {w : World} {K : PySem.W.Frag} {mg : Str → Option Value} {base : Heap} {CX : CXT} {k : Nat}
    {f : Addr} {F : NF} {eb : Expr} {N fr : List Str} {sp : List (Option V) → Hp → VK → XK → Prop} (S : NScope N [] fr F.scope)
    (hb : ∀ pm ctv : Value, bindArgs (PySem.W.kla_fn "<lambda>" F.qual F.params eb F.scope F.cl pm (.ref F.c) ctv) ⟨[], []⟩ = pure [])
    (hbody : ∀ (A : Around) (outer : List Env) (s : Shared) (H : Hp) (ws : List (Option V)) (Q : VK) (E : XK),
      Room k (A.deeper (envF F f s.heap.objs.size)) → H f = some (LmO f F eb) → H F.c = some (CodeO F.c F.qual) →
      ws.length = fr.length → sp ws H Q E →
      ∃ t, PE (ncx CX P w K mg base N F f A outer s H E) eb t ∧ t (startF N [] ws) H Q) :
    LOk P w K mg base CX (k + 1) f F eb fr sp := by
  refine ⟨fun A outer s H ws Q E hr e0 hf hc C hsp => ?_⟩
  have lim : s.heap.NoLimit := e0.mod.nolimit.keeps fun b o e => (e0.bs b o e).1
  obtain ⟨pm, ctv, ho⟩ := lmO_at e0.hok hf
  refine PySem.W.kla_callFunE hr.depth ho rfl S.co S.gen rfl (codeO_at e0.hok hc) ?_
  rw [hb pm ctv]
  refine wpAny_pure (wpAny_newFunctionEnv S.nocell (fun y hy => absurd hy (by simp)) (fun h₁ hns hsb => ⟨lim.fresh _ hsb, ?_⟩) S.kind)
  have kp : ∀ b o, s.heap.get? b = some o → h₁.get? b = some o := by
    intro b o e
    exact hsb.extBut b o (Nat.ne_of_lt (Heap.lt_size e)) (Heap.get?_push_of_some _ e)
  show codeAny _ _ (.expr eb (envF F f s.heap.objs.size)) _ _
  obtain ⟨t, ht, hq⟩ := hbody A outer s H ws Q E (hr.deeper _) hf hc C.len hsp
  have I : Inv (ncx CX P w K mg base N F f A outer s H E) [] (startF N [] ws) H { s with heap := h₁, toks := s.toks + ([] : List (Str × Value)).length } :=
    inv_startN (us := []) S hr.hd e0 rfl .nil C hns kp
  refine PySem.W.kla_codeExpr (wpAny_mono (ht.run [] _ _ H Q I hq) (fun u s' z => ?_) fun e s' z => z)
  obtain ⟨v, H', J, rv, q⟩ := z
  exact ⟨v, H', J.os, J.bare, J.base, J.hok, rv, q⟩
/-! ### captured cells, later -/
section
variable {X : Cx} {pins : List (Addr × Obj)} {σ : L2.St} {H : Hp} {s : Shared} {cl : List (Str × Addr)} {fr : List Str} {ws : List (Option V)}
theorem cells_un {fs ex : List Addr} {H0 : Hp} {h0 h : Heap} (C : CellsAt cl fr ws h0 H0) (u : Un fs ex H0 H h0 h)
    (hx : ∀ y c, cl.lookup y = some c → c ∉ ex) : CellsAt cl fr ws h H := by
  have kp : ∀ y c, cl.lookup y = some c → ∀ v, h0.IsCell c v → h.IsCell c v := by
    intro y c e v z
    obtain ⟨o, ho, hd⟩ := z
    obtain ⟨sl, q⟩ := u.any ho (C.all y c e).1 (hx y c e)
    exact ⟨_, q, hd⟩
  refine ⟨C.len, fun y c e => ?_, C.inj, fun i y e => ?_⟩
  · obtain ⟨n, v, z⟩ := C.all y c e
    refine ⟨?_, v, kp y c e v z⟩
    obtain ⟨o, ho, _⟩ := z
    exact u.free c o ho n (hx y c e)
  · obtain ⟨c, hc, hv⟩ := C.has i y e
    refine ⟨c, hc, fun v ev => ?_⟩
    obtain ⟨u, r, z⟩ := hv v ev
    exact ⟨u, r, kp y c hc _ z⟩
end
end Lx

namespace Lx
open PySem PySem.Spec PyProof.Rows L2 LamX NdefX
/-! ### a(), a the name that holds a lambda; Z: the def that was handed it -/
section
variable {Z : Cx} {f : Addr} {F : NF} {eb : Expr} {fr : List Str} {ws : List (Option V)} {sp : List (Option V) → Hp → VK → XK → Prop}
def tLmCall (i : Nat) (f : Addr) (F : NF) (eb : Expr) (sp : Hp → VK → XK → Prop) (W : WX) : TE := fun σ H Q =>
  σ[i]? = some (some (.ref f)) ∧ H f = some (LmO f F eb) ∧ H F.c = some (CodeO F.c F.qual) ∧ sp H Q (WE W σ)
theorem pe_lmcall {k i : Nat} {a : Str} {W : WX} {p1 p2 : Pos}
    (L : LOk Z.prog Z.w Z.K Z.mg Z.base (L2.CX Z.prog Z.w) k f F eb fr sp) (hr : Room k Z.A)
    (C : CellsAt F.cl fr ws Z.s_0.heap Z.H_0) (hx : ∀ y c, F.cl.lookup y = some c → c ∉ Z.ex)
    (tk : Takes Z W) (hN : Z.N[i]? = some a) (hv : Vis Z.env.scope a)
    (hd : (a == ("__debug__" : Str)) = false := by decide) (hcd : (a == ("__classdict__" : Str)) = false := by decide) :
    PE Z (.Call (.Name a p1) [] [] p2) (tLmCall i f F eb (sp ws) W) := by
  refine ⟨fun pins s σ H Q I h => ?_⟩
  obtain ⟨hs, hf, hc, q⟩ := h
  refine wpAny_Call_Name_kw ?_
  refine thn ((pe_var (pos := p1) hN hv hd hcd).run pins s σ H (fun v H1 => v = .ref f ∧ H1 = H) I ⟨.ref f, hs, rfl, rfl⟩) ?_
  intro u s1 z
  obtain ⟨v, H1, I1, r1, rfl, rfl⟩ := z
  obtain rfl : u = Value.ref f := r1
  obtain ⟨pm, ctv, ho⟩ := lmO_at I1.hok hf
  refine PySem.W.callWith_F0 (first := []) ⟨_, _, _, _, ho⟩ ?_
  have run := L.run Z.A Z.stack s1 H1 ws Q (WE W σ) hr I1.env0 hf hc (cells_un C I1.base hx) q
  refine wpAny_call (codeAny_mono run fun r s' z => ?_)
  cases r with
  | error e => exact passAt tk σ pins H1 s1 e s' I1 z
  | ok fl =>
    cases fl with
    | ret u => exact I1.after z
    | next => exact z.elim
    | brk => exact z.elim
    | cont => exact z.elim
end
/-! ### the def that calls what it is handed -/
/-- TT: what it makes of the lambda's promise -/
abbrev TTy := (XK → Hp → VK → Prop) → Hp → VK → Prop
structure TakesLam (P : Program) (w : World) (K : PySem.W.Frag) (mg : Str → Option Value) (base : Heap) (k j : Nat) (g : Addr) (TT : TTy) : Prop where
  run : ∀ (A : Around) (outer : List Env) (s : Shared) (H : Hp) (f : Addr) (F : NF) (eb : Expr) (fr : List Str) (ws : List (Option V))
    (sp : List (Option V) → Hp → VK → XK → Prop) (Q : VK), Room k A → Env0 P w K mg base A outer s H →
    LOk P w K mg base (L2.CX P w) j f F eb fr sp → H f = some (LmO f F eb) → H F.c = some (CodeO F.c F.qual) → CellsAt F.cl fr ws s.heap H →
    TT (fun E HZ QZ => HZ f = some (LmO f F eb) ∧ HZ F.c = some (CodeO F.c F.qual) ∧ sp ws HZ QZ E) H Q →
    codeAny (model P w) A (.call (.ref g) ⟨[.ref f], []⟩) (CR L2.CX0 outer P w H s Q L2.E0) s
theorem takesLam_of {P : Program} {w : World} {K : PySem.W.Frag} {mg : Str → Option Value} {base : Heap} {k j : Nat} {g : Addr} {TT : TTy}
    {x a : Str} {st : Stmt} {fd : FuncData} {Ng : List Str} (D : L2.Fun K x x st g fd) (hb : L2.Binds K fd [a] []) (Sg : FnScope Ng [a] (defScope st))
    (hbody : ∀ (cdv : Value) (A : Around) (outer : List Env) (s : Shared) (H : Hp) (f : Addr) (F : NF) (eb : Expr) (fr : List Str) (ws : List (Option V))
      (sp : List (Option V) → Hp → VK → XK → Prop) (Q : VK), Room k (A.deeper (envOfC x (defScope st) s.heap.objs.size g cdv)) →
      LOk P w K mg base (L2.CX P w) j f F eb fr sp → CellsAt F.cl fr ws s.heap H →
      TT (fun E HZ QZ => HZ f = some (LmO f F eb) ∧ HZ F.c = some (CodeO F.c F.qual) ∧ sp ws HZ QZ E) H Q →
      ∃ t, PSs (cxOf L2.CX0 P w K mg base Ng x (defScope st) g cdv A outer s H L2.E0).nox (defBody st) t ∧
        t { nx := fun _ H' => Q .non H', rt := Q } (L2.start Ng [.ref f]) H) :
    TakesLam P w K mg base (k + 1) j g TT := by
  obtain ⟨oc, od, kV, doc, pm, an, cdv, ct, osl, rfl, lk, hcd⟩ := D.ex
  refine ⟨fun A outer s H f F eb fr ws sp Q hr e0 L hf hc C q => ?_⟩
  have KX : K.In s.heap := e0.mod.kin.keeps fun b o e => (e0.bs b o e).1
  refine run_ofS (N := Ng) (ps := [a]) (us := [.ref f]) (vs := [.ref f]) lk hcd Sg hr e0 (hb s [.ref f] KX rfl) (.cons rfl .nil) rfl fun hr' => ?_
  obtain ⟨t, h1, h2⟩ := hbody cdv A outer s H f F eb fr ws sp Q hr' L C q
  exact ⟨t, h1.nox, h2⟩
/-! ### .. called -/
/-- v is a lambda, its cells told by cells -/
def LamV (X : Cx) (j : Nat) (TT : TTy) (cells : NF → List Str → List (Option V) → Prop) (v : V) (H : Hp) (Q : VK) : Prop :=
  ∃ (f : Addr) (F : NF) (eb : Expr) (fr : List Str) (ws : List (Option V)) (sp : List (Option V) → Hp → VK → XK → Prop), v = .ref f ∧
    H f = some (LmO f F eb) ∧ H F.c = some (CodeO F.c F.qual) ∧ LOk X.prog X.w X.K X.mg X.base (L2.CX X.prog X.w) j f F eb fr sp ∧ cells F fr ws ∧
    TT (fun E HZ QZ => HZ f = some (LmO f F eb) ∧ HZ F.c = some (CodeO F.c F.qual) ∧ sp ws HZ QZ E) H Q
def tKind (X : Cx) (j : Nat) (TT : TTy) (cells : L2.St → NF → List Str → List (Option V) → Prop) (ta : TE) : TE := fun σ H Q =>
  ta σ H fun v H1 => LamV X j TT (cells σ) v H1 Q
theorem pe_kind {Z : Cx} {k j : Nat} {g : Addr} {TT : TTy} {cells : L2.St → NF → List Str → List (Option V) → Prop} {x : Str} {a : Expr} {ta : TE} {p pos : Pos}
    (G : TakesLam Z.prog Z.w Z.K Z.mg Z.base k j g TT) (hr : Room k Z.A)
    (hC : ∀ pins σ H s, Inv Z pins σ H s → ∀ F fr ws, cells σ F fr ws → CellsAt F.cl fr ws s.heap H)
    (hg : Gl Z x) (hm : Z.mg x = some (.ref g)) (hk : PySem.W.keepIn Z.K (.ref g) = true) (ha : PE Z a ta)
    (hdb : (x == ("__debug__" : Str)) = false := by decide) (he : starEach (a :: []) Z.env = (false, eval a Z.env) :: starEach [] Z.env := by rfl)
    (hpl : (backTo pos (starEach [] Z.env)).any (·.1) = false := by rfl) :
    PE Z (.Call (.Name x p) [a] [] pos) (tKind Z j TT cells ta) := by
  refine ⟨fun pins s σ H Q I h => ?_⟩
  refine wpAny_Call_Name_kw (ld_glob I hg hm ?_ hdb)
  have pa : PA Z [a] (tCons ta tNil) := pa_cons ha pa_nil he
  refine PySem.W.callWith_K (h₀ := Z.base) I.ok.mod.kin hk (thn (pa.run pos pins s σ H
    (fun vs H1 => ∃ v, vs = [v] ∧ LamV Z j TT (cells σ) v H1 Q) I ?_) ?_) he hpl
  · exact (show ta σ H fun v H1 => tNil σ H1 fun vs H2 => ∃ v', v :: vs = [v'] ∧ LamV Z j TT (cells σ) v' H2 Q from by
      have e : (fun (v : V) (H1 : Hp) => tNil σ H1 fun vs H2 => ∃ v', v :: vs = [v'] ∧ LamV Z j TT (cells σ) v' H2 Q) = fun v H1 => LamV Z j TT (cells σ) v H1 Q := by
        funext v H1
        refine propext ⟨fun ⟨v', e, z⟩ => ?_, fun z => ⟨v, rfl, z⟩⟩
        have e' : v = v' := by injection e
        rw [e']; exact z
      rw [e]; exact h)
  intro us s1 z
  obtain ⟨vs, H1, I1, r, v, rfl, f, F, eb, fr, ws, sp, rfl, hf, hc, L, hcl, q⟩ := z
  refine ⟨I1.kIn, ?_⟩
  cases r with
  | cons r1 rn =>
    rename_i u us
    cases rn
    obtain rfl : u = Value.ref f := r1
    show wpAny _ _ (call (.ref g) [.ref f]) _ _ _
    refine wpAny_call (codeAny_mono (G.run Z.A Z.stack s1 H1 f F eb fr ws sp Q hr I1.env0 L hf hc (hC _ _ _ _ I1 F fr ws hcl) q) fun r s' z => ?_)
    cases r with
    | error e => exact z.elim
    | ok fl =>
      cases fl with
      | ret u => exact I1.after z
      | next => exact z.elim
      | brk => exact z.elim
      | cont => exact z.elim
/-- the cells of the frame that runs -/
def ownCells (X : Cx) (σ : L2.St) (F : NF) (fr : List Str) (ws : List (Option V)) : Prop := ∃ js, (X.Ok → Caps X F.cl fr js) ∧ ws = js.map (slotAt σ)
theorem ownCells_at {X : Cx} : ∀ pins σ H s, Inv X pins σ H s → ∀ F fr ws, ownCells X σ F fr ws → CellsAt F.cl fr ws s.heap H := by
  intro pins σ H s I F fr ws h
  obtain ⟨js, c, rfl⟩ := h
  exact cells_of I (c I.ok)
/-- .. seen from a comprehension's block within it -/
theorem blkCells_at {X : Cx} {pins0 : List (Addr × Obj)} {σ0 : L2.St} {H0 : Hp} {s0 : Shared} {scope : Scope} {cenv : Env} {fp : List Addr}
    (I0 : Inv X pins0 σ0 H0 s0) (hfp : ∀ b ∈ fp, FpOk X pins0 H0 b) :
    ∀ pins σ H s, Inv (X.blk s0 H0 scope cenv fp) pins σ H s → ∀ F fr ws, ownCells X σ0 F fr ws → CellsAt F.cl fr ws s.heap H := by
  intro pins σ H s I F fr ws h
  obtain ⟨js, c0, rfl⟩ := h
  have c := c0 I0.ok
  refine cells_un (cells_of I0 c) I.base fun y a e hm => ?_
  exact (hfp a hm).2.2.2.2.1 y a (c.sub y a e) rfl
/-! ### a comprehension whose block knows the def's state -/
section
variable {X : Cx}
/-- the block's loop -/
theorem blk_loop {pins : List (Addr × Obj)} {σ : L2.St} {H3 : Hp} {s3 : Shared} {Q : VK} {elt tg iter : Expr} {ifs : List Expr} {scope : Scope} {vs : List Nat} {pos : Pos}
    {g : TG} {tt : TT} {te : TE} {fp : List Addr} {it D : Addr} {J : It} {tn : Nat → Heap → Prop} {ce : Env} {s4 : Shared} {R : Result → Shared → Prop}
    (hc : X.calm = true) (I3 : Inv X pins σ H3 s3) (f3 : ∀ b ∈ fp, FpOk X pins H3 b) (T : Turn X.prog X.w X.K tg J fp it tn)
    (I4 : Inv (X.blk s3 H3 scope ce fp) [] (wipe σ vs) H3 s4) (st4 : tn 0 s4.heap)
    (pg : PG (X.blk s3 H3 scope ce fp) tg g) (pt : PTs (X.blk s3 H3 scope ce fp) ifs tt) (pe : PE (X.blk s3 H3 scope ce fp) elt te)
    {W : Nat → Nat → Hp → Prop} (hW : ∃ m, W 0 m H3)
    (turn : ∀ i m H, W i m H → (J.stop i H ∧ Q (.ref D) H) ∨ (J.go i H ∧ ∃ Nx : Hp → Prop, (∀ H', Nx H' → ∃ m', m' < m ∧ W (i + 1) m' H') ∧
      ∀ x H', J.yld i H x H' → g x (wipe σ vs) H' fun σ2 H2 => wipe σ2 vs = wipe σ vs ∧ tt σ2 H2 fun b H3 =>
        if b = true then te σ2 H3 fun y H4 => ∃ acc, H4 D = some (.lst acc) ∧ acc.length < sizeLine ∧ Nx (upd H4 D (.lst (acc ++ [y]))) else Nx H3))
    (hR : ∀ s' H', Inv X pins σ H' s' → Q (.ref D) H' → H' ce.locals = none → (∃ m, s'.heap.Ns ce.locals m) → R (.ok .next) s') :
    codeAny (model X.prog X.w) X.A (.compLoop (.ListComp elt [⟨tg, iter, ifs, 0⟩] scope pos) 0 (.ref it) (.ref D) ce) R s4 := by
  obtain ⟨m0, w0⟩ := hW
  let Y := X.blk s3 H3 scope ce fp
  have fpY : ∀ {σ' : L2.St} {H' : Hp} {s' : Shared}, Inv Y [] σ' H' s' → (∀ b ∈ fp, H' b = none) → ∀ b ∈ fp, FpOk Y [] H' b := by
    intro σ' H' s' I' n b hb
    refine ⟨n b hb, (I'.ok.exf b hb).1, I'.ok.exfs b hb, .inl hb, (I'.ok.exf b hb).2, fun p hp => ?_⟩
    exact absurd (show p ∈ ([] : List (Addr × Obj)) ++ [] from hp) (by simp)
  refine compLoop_any (fun n s' => ∃ i H', Inv Y [] (wipe σ vs) H' s' ∧ tn i s'.heap ∧ (∀ b ∈ fp, H' b = none) ∧ W i n H') ?_ m0
    ⟨0, H3, I4, st4, fun b hb => (f3 b hb).1, w0⟩
  intro n s5 z
  obtain ⟨i, H5, I5, st5, n5, w5⟩ := z
  rcases turn i n H5 w5 with ⟨stop, done⟩ | ⟨go, Nx, hNx, step⟩
  · -- no further item: the def's state again
    refine thnF (T.done Y rfl rfl rfl hc i [] s5 _ H5 (fun _ _ => False) I5 (fpY I5 n5) st5 stop) fun r s6 q => ?_
    obtain ⟨rfl, I6⟩ := q
    have back : Inv X pins σ H5 s6 := by
      refine I3.call' (ch := fp) I6.os I6.base I6.hok I6.bare fun b hb => ?_
      obtain ⟨_, h1, _, h2, h3, h4⟩ := f3 b hb
      exact ⟨h2, h1, h3, h4⟩
    obtain ⟨m, hn, _⟩ := I6.loc
    exact hR s6 H5 back done I6.free ⟨m, hn⟩
  · refine thnF (T.item Y rfl rfl rfl hc i [] s5 _ H5 (fun _ _ => False) I5 (fpY I5 n5) st5 go) fun r s6 q => ?_
    obtain ⟨u, rfl, h6⟩ := q
    refine thnF h6 fun _ s7 q => ?_
    obtain ⟨x, H7, I7, r7, y7, st7, n7⟩ := q
    have I7p := I7.pinned (fpY I7 n7) (T.obj _ _ st7)
    refine thnF (pg.run _ s7 _ H7 x u _ I7p r7 (step x H7 y7)) fun _ s8 q => ?_
    obtain ⟨σ8, H8, I8, w8, q8⟩ := q
    refine thnF (pt.run _ s8 σ8 H8 _ I8 q8) fun b s9 q => ?_
    obtain ⟨H9, I9, q9⟩ := q
    have again : ∀ {s' : Shared} {H' : Hp}, Inv Y ([] ++ pinsAt fp s7.heap) σ8 H' s' → Nx H' →
        ∃ m, m < n ∧ ∃ i H', Inv Y [] (wipe σ vs) H' s' ∧ tn i s'.heap ∧ (∀ b ∈ fp, H' b = none) ∧ W i m H' := by
      intro s' H' I' nx
      obtain ⟨m', lt, w'⟩ := hNx H' nx
      have pin : ∀ b ∈ fp, ∀ o, s7.heap.get? b = some o → s'.heap.get? b = some o ∧ H' b = none := by
        intro b hb o e
        have z := I'.pin (b, o) (List.mem_append_right _ (List.mem_append_right _ (mem_pinsAt hb e)))
        exact ⟨z.1, z.2.1⟩
      refine ⟨m', lt, i + 1, H', (I'.unpinned (pins := [])).weak (by rw [← w8, wipe_length]) (fun j v e => ?_), T.keep _ _ _ st7 fun b hb o e => (pin b hb o e).1, fun b hb => ?_, w'⟩
      · rw [← w8] at e
        exact (wipe_some e).1
      · obtain ⟨o, e, _⟩ := T.obj _ _ st7 b hb
        exact (pin b hb o e).2
    cases b with
    | false =>
      rw [if_neg Bool.false_ne_true] at q9 ⊢
      exact again I9 q9
    | true =>
      rw [if_pos rfl] at q9 ⊢
      refine thnF (pe.run _ s9 σ8 H9 _ I9 q9) fun z s10 q => ?_
      obtain ⟨yv, H10, I10, r10, acc, hD, hz, nx⟩ := q
      exact app_ok (X := Y) I10 hD hz r10 fun s11 I11 => again I11 nx
/-- what the block may know of the def's state at its start -/
structure BlkAt (X : Cx) (pins : List (Addr × Obj)) (σ : L2.St) (s : Shared) (H : Hp) (fp : List Addr) : Prop where
  inv : Inv X pins σ H s
  fp : ∀ b ∈ fp, FpOk X pins H b
theorem pe_lcI {elt tg iter : Expr} {ifs : List Expr} {scope : Scope} {own : List (Str × Nat)} {pos : Pos} {wi : TI} {g : TG} {te : L2.St → TE} {tts : L2.St → TT}
    (hc : X.calm = true) (hN : X.N.Nodup) (hi : PI X tg iter wi) (ok : BlkOk X.N X.env.scope scope own)
    (hg : ∀ (s : Shared) (H : Hp) (C : Addr) (cl : List (Str × Addr)) (fp : List Addr), PG (X.blk s H scope (compEnvC scope cl C X.env) fp) tg g)
    (ht : ∀ (pins : List (Addr × Obj)) (σ : L2.St) (s : Shared) (H : Hp) (C : Addr) (cl : List (Str × Addr)) (fp : List Addr), BlkAt X pins σ s H fp →
      PTs (X.blk s H scope (compEnvC scope cl C X.env) fp) ifs (tts σ))
    (he : ∀ (pins : List (Addr × Obj)) (σ : L2.St) (s : Shared) (H : Hp) (C : Addr) (cl : List (Str × Addr)) (fp : List Addr), BlkAt X pins σ s H fp →
      PE (X.blk s H scope (compEnvC scope cl C X.env) fp) elt (te σ))
    (hs : ∀ x, foldedSetIterable iter X.env x = pure x := by intro _; rfl) :
    PE X (.ListComp elt [⟨tg, iter, ifs, 0⟩] scope pos) (fun σ H Q => tLc wi g (tts σ) (te σ) (own.map (·.2)) σ H Q) := by
  refine ⟨fun pins s σ H Q I h => ?_⟩
  rw [eval_ListComp]
  have hfree : ∀ y ∈ scope.names, y.2 = .free → ∃ c, X.env.cells.lookup y.1 = some c := by
    intro y hy e
    rcases ok.free y hy e with k | k
    · exact I.ok.has _ (.inl k)
    · exact I.ok.has _ (.inr k)
  refine wpAny_comprehension_free (use := none) rfl hs (closure_ok hfree) ok.kind (fun y hy e => by rw [ok.uniq y hy, e]) ?_
  refine thn (hi.run pins s σ H _ I h) fun xv s1 hx => thn hx fun itv s2 h2 => ?_
  obtain ⟨it, fp, tn, J, H2, rfl, I2, T, st2, f2, q⟩ := h2
  refine wpAny_newObj_type (newEnv_comp ?_) (by show 0 ≤ sizeLine; decide)
  generalize hD : s2.heap.objs.size = D
  obtain ⟨W, hW, turn⟩ := q D (I2.hok.fresh (Nat.le_of_eq hD))
  have lt2 : ∀ b ∈ fp, b < s2.heap.objs.size := by
    intro b hb
    obtain ⟨o, e, _⟩ := T.obj _ _ st2 b hb
    exact Heap.lt_size e
  -- the list
  have I3 : Inv X pins σ (upd H2 D (.lst [])) { s2 with heap := s2.heap.push { cls := .type "list", data := .seq ([] : List Value).toArray } } := by
    refine I2.laid (t' := s2.toks) (fun b o e => Heap.get?_push_of_some _ e) (Nat.le_of_eq hD) ⟨Nat.zero_le _, [], 0, .nil, ?_⟩
    rw [← hD]
    exact Heap.get?_push_size _ rfl
  have st3 : tn 0 (s2.heap.push { cls := .type "list", data := .seq ([] : List Value).toArray }) := T.keep _ _ _ st2 fun b _ o e => Heap.get?_push_of_some _ e
  have f3 : ∀ b ∈ fp, FpOk X pins (upd H2 D (.lst [])) b := by
    intro b hb
    refine ⟨?_, (f2 b hb).2⟩
    rw [upd_ne (by rw [← hD]; exact Nat.ne_of_lt (lt2 b hb))]
    exact (f2 b hb).1
  have l3 : ∀ b ∈ fp, b < (s2.heap.push { cls := .type "list", data := .seq ([] : List Value).toArray }).objs.size := by
    intro b hb
    rw [Heap.size_push]
    exact Nat.lt_succ_of_lt (lt2 b hb)
  generalize hs3 : ({ s2 with heap := s2.heap.push { cls := .type "list", data := .seq ([] : List Value).toArray } } : Shared) = s3 at I3
  have h3 : s3.heap = s2.heap.push { cls := .type "list", data := .seq ([] : List Value).toArray } := by rw [← hs3]
  rw [← h3] at st3 l3
  generalize upd H2 D (.lst []) = H3 at I3 f3 hW
  have I4 := block_start I3 ok hN fun b hb => ⟨f3 b hb, l3 b hb⟩
  have at_ : BlkAt X pins σ s3 H3 fp := ⟨I3, f3⟩
  have pg := hg s3 H3 s3.heap.objs.size (cellsFrom (s3.heap.objs.size + 1) scope.names (cloFrom X.env.cells scope.names [])) fp
  have pt := ht pins σ s3 H3 s3.heap.objs.size (cellsFrom (s3.heap.objs.size + 1) scope.names (cloFrom X.env.cells scope.names [])) fp at_
  have pe := he pins σ s3 H3 s3.heap.objs.size (cellsFrom (s3.heap.objs.size + 1) scope.names (cloFrom X.env.cells scope.names [])) fp at_
  have st4 : tn 0 (pushCells (s3.heap.push { cls := .type "dict", data := .dict #[] }) scope.names) :=
    T.keep _ _ _ st3 fun b _ o e => pushCells_keeps _ _ _ _ (Heap.get?_push_of_some _ e)
  show codeAny _ _ (.compStart (.ListComp elt [⟨tg, iter, ifs, 0⟩] scope pos) 0 (.ref it) (.ref D)
    (compEnvC scope (cellsFrom (s3.heap.objs.size + 1) scope.names (cloFrom X.env.cells scope.names [])) s3.heap.objs.size X.env))
    (compPost (model X.prog X.w) X.A X.xe none (EP X pins σ Q) (.ref D) s3.heap.objs.size)
    { s3 with heap := pushCells (s3.heap.push { cls := .type "dict", data := .dict #[] }) scope.names }
  have loop := blk_loop (iter := iter) (pos := pos) (R := compPost (model X.prog X.w) X.A X.xe none (EP X pins σ Q) (.ref D) s3.heap.objs.size)
    hc I3 f3 T I4 st4 pg pt pe hW turn (fun s' H' I' q nC hn => by
      obtain ⟨m, hn⟩ := hn
      refine ⟨m, hn, fun h'' sb => ?_⟩
      have f := I3.fpOk (b := s3.heap.objs.size) (H' := H') (Nat.le_refl _) nC
      obtain ⟨f0, f1, f2, f3, f4, f5⟩ := f
      exact ⟨.ref D, H', I'.turned (t' := s'.toks) (fun b o hb e => (sb.2 b hb).trans e) f0 f1 f3 f4 f5, rfl, q⟩)
  exact codeAny_compStart_list loop (T.self X.A 0 _ _ _ st4 loop)
end
end Lx

namespace Lx
open PySem PySem.Spec PyProof.Rows L2 LamX NdefX
/-! ### the drawing state -/
/-- the script that the state at S names -/
def Scr (H : Hp) (S a : Addr) : Prop := ∃ xs, H S = some (.lst (.ref a :: xs))
/-- all but S stays, and the state goes on naming its script -/
structure But (S : Addr) (H H' : Hp) : Prop where
  keep : ∀ b o, b ≠ S → H b = some o → H' b = some o
  scr : ∀ a, Scr H S a → Scr H' S a
instance {S : Addr} {H H' : Hp} : CoeFun (But S H H') (fun _ => ∀ b o, b ≠ S → H b = some o → H' b = some o) := ⟨But.keep⟩
theorem But.refl {S : Addr} {H : Hp} : But S H H := ⟨fun _ _ _ e => e, fun _ h => h⟩
theorem But.trans {S : Addr} {H H1 H2 : Hp} (a : But S H H1) (b : But S H1 H2) : But S H H2 := ⟨fun c o n e => b.keep c o n (a.keep c o n e), fun c h => b.scr c (a.scr c h)⟩
theorem But.self {S a : Addr} {H : Hp} {xs ys : List V} (_ : H S = some (.lst (.ref a :: xs))) : But S H (upd H S (.lst (.ref a :: ys))) :=
  ⟨fun b u n e => by rw [upd_ne n]; exact e, fun c h => by
    obtain ⟨zs, h⟩ := h
    rename_i e
    rw [e] at h
    have h2 := (List.cons.inj (HO.lst.inj (Option.some.inj h))).1
    have h3 := V.ref.inj h2
    subst h3
    exact ⟨ys, upd_same⟩⟩
theorem But.new {S p : Addr} {H : Hp} {o : HO} (h : H p = none) : But S H (upd H p o) :=
  ⟨fun b u n e => by rw [upd_ne (ne_of_none e h)]; exact e, fun c k => by
    obtain ⟨zs, k⟩ := k
    exact ⟨zs, by rw [upd_ne (ne_of_none k h)]; exact k⟩⟩
theorem But.at_ {S b : Addr} {H H' : Hp} {o : HO} (x : But S H H') (e : H b = some o) (n : b ≠ S) : H' b = some o := x.keep b o n e
/-- the state at S: the script, how many, mixed, what is left -/
def StAt (K : PySem.W.Frag) (S : Addr) (H : Hp) : Prop := ∃ (a : Addr) (ns : List Int) (i m r : Int),
  H S = some (.lst [.ref a, .int i, .int m, .int r]) ∧ SqL K H a (ns.map V.int) ∧ 0 ≤ i ∧ 0 ≤ m ∧ m < 2147483647 ∧ 0 ≤ r
theorem st_ne {K : PySem.W.Frag} {H : Hp} {S a : Addr} {i m r : Int} {ns : List Int} (e : H S = some (.lst [.ref a, .int i, .int m, .int r]))
    (h : Rd H a (.lst (ns.map V.int))) : a ≠ S := by
  intro z
  rw [z] at h
  rcases h with h | ⟨o, h⟩
  · rw [e] at h
    have h' := HO.lst.inj (Option.some.inj h)
    cases ns with
    | nil => cases h'
    | cons n r =>
      have h2 := (List.cons.inj h').1
      cases h2
  · rw [e] at h; cases h
theorem sqL_but {K : PySem.W.Frag} {H H' : Hp} {S a : Addr} {xs : List V} (b : But S H H') (h : SqL K H a xs) (n : Rd H a (.lst xs) → a ≠ S) : SqL K H' a xs := by
  rcases h with h | h
  · have hn := n h
    rcases h with h | ⟨o, h⟩
    · exact .inl (.inl (b _ _ hn h))
    · exact .inl (.inr ⟨o, b _ _ hn h⟩)
  · exact .inr h
/-- the state is written anew -/
theorem StAt.put {K : PySem.W.Frag} {S a : Addr} {H : Hp} {ns : List Int} {i m r i' m' r' : Int} (e : H S = some (.lst [.ref a, .int i, .int m, .int r])) (h : SqL K H a (ns.map V.int))
    (h1 : 0 ≤ i') (h2 : 0 ≤ m') (h3 : m' < 2147483647) (h4 : 0 ≤ r') : StAt K S (upd H S (.lst [.ref a, .int i', .int m', .int r'])) :=
  ⟨a, ns, i', m', r', upd_same, sqL_but (But.self (ys := [.int i', .int m', .int r']) e) h fun z => st_ne (K := K) e z, h1, h2, h3, h4⟩
/-- .. stays when other things are laid -/
theorem StAt.new {K : PySem.W.Frag} {S p : Addr} {H : Hp} {o : HO} (s : StAt K S H) (h : H p = none) : StAt K S (upd H p o) := by
  obtain ⟨a, ns, i, m, r, e, q, rest⟩ := s
  refine ⟨a, ns, i, m, r, (upd_ne (ne_of_none e h)).trans e, ?_, rest⟩
  refine sqL_but (S := S) (But.new h) q fun z => st_ne (K := K) e z
theorem StAt.same {K : PySem.W.Frag} {S : Addr} {H H' : Hp} (s : StAt K S H) (h : Same H H') : StAt K S H' := by
  obtain ⟨a, ns, i, m, r, e, q, rest⟩ := s
  exact ⟨a, ns, i, m, r, h _ _ e, h.seq q, rest⟩
theorem StAt.ext {K : PySem.W.Frag} {S : Addr} {H H' : Hp} (s : StAt K S H) (h : ExtN H H') : StAt K S H' := by
  obtain ⟨a, ns, i, m, r, e, q, rest⟩ := s
  refine ⟨a, ns, i, m, r, h _ _ e (fun _ z => by cases z), ?_, rest⟩
  rcases q with (q | ⟨o, q⟩) | q
  · exact .inl (.inl (h _ _ q (fun _ z => by cases z)))
  · exact .inl (.inr ⟨o, h _ _ q (fun _ z => by cases z)⟩)
  · exact .inr q
theorem But.of {S : Addr} {H H' : Hp} (h : Same H H') : But S H H' := ⟨fun b o _ e => h b o e, fun c k => by
  obtain ⟨zs, k⟩ := k
  exact ⟨zs, h _ _ k⟩⟩
theorem But.lay {S D : Addr} {G H : Hp} {o : HO} (b : But S G H) (n : G D = none) (nS : D ≠ S) : But S G (upd H D o) :=
  ⟨fun c u ne e => by rw [upd_ne (ne_of_none e n)]; exact b.keep c u ne e, fun c k => by
    obtain ⟨zs, k⟩ := b.scr c k
    exact ⟨zs, (upd_ne (Ne.symm nS)).trans k⟩⟩
/-- another list, new since G, is written -/
theorem StAt.lay {K : PySem.W.Frag} {S D : Addr} {G H : Hp} {o : HO} (g : StAt K S G) (n : G D = none) (b : But S G H) (s : StAt K S H) (nS : D ≠ S) : StAt K S (upd H D o) := by
  obtain ⟨a, ns, i, m, r, e, q, _⟩ := g
  obtain ⟨a', ns', i', m', r', e', q', rest⟩ := s
  obtain ⟨zs, k⟩ := b.scr a ⟨_, e⟩
  rw [e'] at k
  have ea : a' = a := V.ref.inj (List.cons.inj (HO.lst.inj (Option.some.inj k))).1
  subst ea
  have eS : upd H D o S = some (.lst [.ref a', .int i', .int m', .int r']) := (upd_ne (Ne.symm nS)).trans e'
  have go : a' ≠ D → StAt K S (upd H D o) := fun nD => by
    refine ⟨a', ns', i', m', r', eS, ?_, rest⟩
    rcases q' with (q' | ⟨o', q'⟩) | q'
    · exact .inl (.inl ((upd_ne nD).trans q'))
    · exact .inl (.inr ⟨o', (upd_ne nD).trans q'⟩)
    · exact .inr q'
  rcases q with (q | ⟨o, q⟩) | q
  · exact go (ne_of_none q n)
  · exact go (ne_of_none q n)
  · exact ⟨a', ns, i', m', r', eS, .inr q, rest⟩
theorem StAt.is {K : PySem.W.Frag} {S : Addr} {H : Hp} (s : StAt K S H) : ∃ xs, H S = some (.lst xs) := by
  obtain ⟨a, ns, i, m, r, e, _⟩ := s
  exact ⟨_, e⟩
theorem StAt.ne {K : PySem.W.Frag} {S p : Addr} {H : Hp} {o : HO} (s : StAt K S H) (e : H p = some o) (h : ∀ xs, o ≠ .lst xs) : p ≠ S := by
  obtain ⟨xs, z⟩ := s.is
  intro q; rw [q, z] at e; exact h xs (Option.some.inj e).symm
theorem StAt.nn {K : PySem.W.Frag} {S p : Addr} {H : Hp} (s : StAt K S H) (e : H p = none) : p ≠ S := by
  obtain ⟨xs, z⟩ := s.is
  intro q; rw [q, z] at e; cases e
/-- a draw -/
def spDrawn (K : PySem.W.Frag) : Sp := fun vs H Q _ => ∃ (S : Addr) (many : Int), vs = [.ref S, .int many] ∧ StAt K S H ∧ 0 < many ∧ many < 10000000000000000000000000000000000000000 ∧
  ∀ (v : Int) (H' : Hp), 0 ≤ v → v < many → But S H H' → StAt K S H' → Q (.int v) H'
def spStart (K : PySem.W.Frag) : Sp := fun vs H Q _ => ∃ (a : Addr) (ns : List Int), vs = [.ref a] ∧ SqL K H a (ns.map V.int) ∧
  ∀ (S : Addr) (H' : Hp), Same H H' → H S = none → StAt K S H' → Q (.ref S) H'
theorem wide40 {j : Int} (h : 0 < j) (h2 : j < 10000000000000000000000000000000000000000) : CDivW 0 j :=
  wide_div (b := 140) h (by have : (10000000000000000000000000000000000000000 : Int) < 2 ^ 140 := by decide
                            omega) (by decide) (by decide)
end Lx

namespace Lx
open PySem PySem.Spec PyProof.Rows L2 LamX NdefX
/-! ### a def of the module that is known by its promise -/
structure Kn (P : Program) (w : World) (K : PySem.W.Frag) (mg : Str → Option Value) (base : Heap) (C : CXT) (k : Nat) (x : Str) (ps : List Str) (sp : Sp) : Prop where
  ex : ∃ (f : Addr) (fd : FuncData), FnOk P w K mg base C k f fd ps sp ∧ mg x = some (.ref f) ∧ PySem.W.keepIn K (.ref f) = true ∧ Binds K fd ps []
def tKn (sp : Sp) (E : XK) (t : TA) : TE := fun σ H Q => t σ H fun vs H1 => sp (vs ++ []) H1 Q E
section
variable {X : Cx} {C : CXT} {k j : Nat} {x : Str} {ps : List Str} {sp : Sp} {E : XK} {e : Expr} {es : List Expr} {t : TA} {p pos : Pos}
theorem pe_knX (D : Kn X.prog X.w X.K X.mg X.base C j x ps sp) (hr : Room k X.A) (hj : j ≤ k) (hx : Passes C X E) (ha : PA X (e :: es) t) (hg : Gl X x)
    (hdb : (x == ("__debug__" : Str)) = false := by decide) (he : starEach (e :: es) X.env = (false, eval e X.env) :: starEach es X.env := by rfl)
    (hpl : (backTo pos (starEach es X.env)).any (·.1) = false := by rfl) : PE X (.Call (.Name x p) (e :: es) [] pos) (tKn sp E t) := by
  obtain ⟨f, fd, F, hm, hk, hb⟩ := D.ex
  exact pe_call F (hr.mono hj) hg hm hk hb .nil hx ha hdb he hpl
/-- nothing is raised -/
theorem pe_kn (D : Kn X.prog X.w X.K X.mg X.base CX0 j x ps sp) (hr : Room k X.A) (hj : j ≤ k) (ha : PA X (e :: es) t) (hg : Gl X x)
    (hdb : (x == ("__debug__" : Str)) = false := by decide) (he : starEach (e :: es) X.env = (false, eval e X.env) :: starEach es X.env := by rfl)
    (hpl : (backTo pos (starEach es X.env)).any (·.1) = false := by rfl) : PE X (.Call (.Name x p) (e :: es) [] pos) (tKn sp L2.E0 t) :=
  pe_knX D hr hj pass0 ha hg hdb he hpl
/-- it may raise, not here -/
theorem pe_knL (D : Kn X.prog X.w X.K X.mg X.base (L2.CX X.prog X.w) j x ps sp) (hr : Room k X.A) (hj : j ≤ k) (ha : PA X (e :: es) t) (hg : Gl X x)
    (hdb : (x == ("__debug__" : Str)) = false := by decide) (he : starEach (e :: es) X.env = (false, eval e X.env) :: starEach es X.env := by rfl)
    (hpl : (backTo pos (starEach es X.env)).any (·.1) = false := by rfl) : PE X (.Call (.Name x p) (e :: es) [] pos) (tKn sp L2.E0 t) :=
  pe_knX D hr hj passL ha hg hdb he hpl
end
theorem Kn.of {P : Program} {w : World} {K : PySem.W.Frag} {mg : Str → Option Value} {base : Heap} {C : CXT} {k : Nat} {x q : Str} {st : Stmt} {f : Addr} {fd : FuncData} {ps : List Str} {sp : Sp}
    (F : Fun K x q st f fd) (o : FnOk P w K mg base C k f fd ps sp) (g : mg x = some (.ref f)) (b : Binds K fd ps []) : Kn P w K mg base C k x ps sp := ⟨f, fd, o, g, F.kp, b⟩
/-! ### an item at a drawn place -/
theorem pick {α : Type} {xs : List α} {v : Int} (h0 : 0 ≤ v) (h1 : v < xs.length) : ∃ x, atI xs v = some x ∧ x ∈ xs := by
  obtain ⟨j, rfl⟩ : ∃ j : Nat, v = j := ⟨v.toNat, by omega⟩
  have lt : j < xs.length := by omega
  exact ⟨xs[j], atI_nat (List.getElem?_eq_getElem lt), List.getElem_mem lt⟩
theorem pick2 {α : Type} {a b : α} {v : Int} (h0 : 0 ≤ v) (h1 : v < 2) : ∃ x, atI [a, b] v = some x ∧ (x = a ∨ x = b) := by
  obtain ⟨x, e, m⟩ := pick (xs := [a, b]) h0 (by simpa using h1)
  exact ⟨x, e, by simpa using m⟩
theorem pick3 {α : Type} {a b c : α} {v : Int} (h0 : 0 ≤ v) (h1 : v < 3) : ∃ x, atI [a, b, c] v = some x ∧ (x = a ∨ x = b ∨ x = c) := by
  obtain ⟨x, e, m⟩ := pick (xs := [a, b, c]) h0 (by simpa using h1)
  exact ⟨x, e, by simpa using m⟩
theorem pick4 {α : Type} {a b c d : α} {v : Int} (h0 : 0 ≤ v) (h1 : v < 4) : ∃ x, atI [a, b, c, d] v = some x ∧ (x = a ∨ x = b ∨ x = c ∨ x = d) := by
  obtain ⟨x, e, m⟩ := pick (xs := [a, b, c, d]) h0 (by simpa using h1)
  exact ⟨x, e, by simpa using m⟩
/-! ### the texts of refusals -/
theorem log_of {i : Int} (h : i.natAbs < 2 ^ 1900) : i.natAbs.log2 < 1920 := by
  have := PySem.Flt.log2_lt_of (n := i.natAbs) (k := 1900) (by decide) h
  omega
/-- numbers of at most forty figures -/
def Sm (i : Int) : Prop := -10000000000000000000000000000000000000000 < i ∧ i < 10000000000000000000000000000000000000000
theorem Sm.log {i : Int} (h : Sm i) : i.natAbs.log2 < 1920 := by
  refine log_of (Nat.lt_of_lt_of_le (m := 10000000000000000000000000000000000000000) ?_ (by decide))
  have h1 := h.1
  have h2 := h.2
  omega
theorem str_fit {a b : Str} {n m : Nat} (ha : a.length ≤ n) (hb : b.length ≤ m) : (a ++ b).length ≤ n + m := by
  rw [Str.length_append]; omega
theorem fit {a : Str} {n : Nat} (h : a.length ≤ n) (h2 : n ≤ 16777216) : a.length ≤ sizeLine := by rw [sizeLine_eq]; omega
/-- a text, a number -/
theorem tJs2 {a : Str} {i : Nat} {σ : L2.St} {H : Hp} {n : Int} {Q : Str → Hp → Prop} (hi : σ[i]? = some (some (.int n))) (ha : (Str.empty ++ a).length ≤ 1000) (hn : Sm n) (q : ∀ out, Q out H) :
    tJs [tC (.str a), tFmt (tVar i)] Str.empty σ H Q := by
  refine ⟨a, rfl, fit ha (by decide), .int n, hi, .inr ⟨n, rfl, hn.log, _, rfl, fit (str_fit ha (int_text_len_1921 hn.log)) (by decide), q _⟩⟩
/-- a text, a number, a text, a number -/
theorem tJs4 {a b : Str} {i j : Nat} {σ : L2.St} {H : Hp} {n m : Int} {Q : Str → Hp → Prop} (hi : σ[i]? = some (some (.int n))) (hj : σ[j]? = some (some (.int m))) (ha : (Str.empty ++ a).length ≤ 1000) (hb : b.length ≤ 1000)
    (hn : Sm n) (hm : Sm m) (q : ∀ out, Q out H) : tJs [tC (.str a), tFmt (tVar i), tC (.str b), tFmt (tVar j)] Str.empty σ H Q := by
  have f1 := str_fit ha (int_text_len_1921 hn.log)
  have f2 := str_fit f1 hb
  have f3 := str_fit f2 (int_text_len_1921 hm.log)
  exact ⟨a, rfl, fit ha (by decide), .int n, hi, .inr ⟨n, rfl, hn.log, _, rfl, fit f1 (by decide), b, rfl, fit f2 (by decide), .int m, hj, .inr ⟨m, rfl, hm.log, _, rfl, fit f3 (by decide), q _⟩⟩⟩
end Lx

namespace Lx
open PySem PySem.Spec PyProof.Rows L2 LamX NdefX
/-! ### a class of refusals, the name x, at C -/
structure Rf (K : PySem.W.Frag) (mg : Str → Option Value) (x : Str) (C : Addr) : Prop where
  g : mg x = some (.ref C)
  e : PySem.W.excIn K C [.type "ValueError", .type "Exception", .type "BaseException", .type "object"] "ValueError.__new__" = true
  k : PySem.W.keepIn K (.ref C) = true
  b : PySem.W.subIn K (.ref C) (.type "BaseException") = some true
  t : PySem.W.typeIn K (.ref C) = some (.type "type")
/-- raise x(f"..") -/
theorem ps_rf {X : Cx} {W : WX} {x : Str} {C : Addr} {e : Expr} {ta : TE} {p p2 p3 : Pos} (hc : X.calm = true) (T : Rf X.K X.mg x C) (tk : Takes X W) (hg : Gl X x) (he : PE X e ta)
    (hs : starEach [e] X.env = (false, eval e X.env) :: starEach [] X.env := by rfl) (hdb : (x == ("__debug__" : Str)) = false := by decide) :
    PS X (.Raise (some (.Call (.Name x p) [e] [] p2)) none p3) (fun _ σ H => ta σ H fun _ H1 => W (.ref C) none σ H1) :=
  ps_raise hc tk (SkE.pmk_own1 PySem.F.excBase_ValueError T.e T.g T.k (raises_own T.b T.t) hg he hs hdb)
/-! ### wheels -/
def Wh (n : Int) : Prop := 2 ≤ n ∧ n ≤ 1000000000000
instance (n : Int) : Decidable (Wh n) := inferInstanceAs (Decidable (2 ≤ n ∧ n ≤ 1000000000000))
def Sn (n s : Int) : Prop := 0 ≤ s ∧ s < n
instance (n s : Int) : Decidable (Sn n s) := inferInstanceAs (Decidable (0 ≤ s ∧ s < n))
def spIsWheel : Sp := fun vs H Q _ => ∃ n : Int, vs = [.int n] ∧ Q (.bl (decide (Wh n))) H
def spCheckWheel (CW : Addr) : Sp := fun vs H Q E => ∃ n : Int, vs = [.int n] ∧ Sm n ∧ (Wh n → Q .non H) ∧ (¬ Wh n → E (.ref CW) none H)
def spCheckSeen (CS : Addr) : Sp := fun vs H Q E => ∃ n s : Int, vs = [.int n, .int s] ∧ Sm n ∧ Sm s ∧ (Sn n s → Q .non H) ∧ (¬ Sn n s → E (.ref CS) none H)
/-- a wheel and two shown numbers -/
def spTwo (CW CS : Addr) (r : Int → Int → Int → V) : Sp := fun vs H Q E => ∃ n a b : Int, vs = [.int n, .int a, .int b] ∧ Sm n ∧ Sm a ∧ Sm b ∧
  (¬ Wh n → E (.ref CW) none H) ∧ (Wh n → ¬ Sn n a → E (.ref CS) none H) ∧ (Wh n → Sn n a → ¬ Sn n b → E (.ref CS) none H) ∧ (Wh n → Sn n a → Sn n b → Q (r n a b) H)
def sinceV (n a b : Int) : V := .int ((b - a) % n)
def ordW (n d : Int) : Str := if 2 * d = 0 then "same" else if 2 * d = n then "opposite" else if 2 * d < n then "ahead" else "behind"
def orderV (n a b : Int) : V := .str (ordW n ((b - a) % n))
end Lx

namespace Lx
open PySem PySem.Spec PyProof.Rows L2 LamX NdefX
/-! ### what the law's own helpers promise -/
/-- a number that is drawn, of which p is told -/
def spDraws (K : PySem.W.Frag) (p : Int → Prop) : Sp := fun vs H Q _ => ∃ S : Addr, vs = [.ref S] ∧ StAt K S H ∧
  ∀ (v : Int) (H' : Hp), p v → But S H H' → StAt K S H' → Q (.int v) H'
def Tm (v : Int) : Prop := -1000000000000000000000000000000 ≤ v ∧ v ≤ 1000000000000000000000000000000
abbrev spWheel (K : PySem.W.Frag) : Sp := spDraws K Wh
abbrev spTime (K : PySem.W.Frag) : Sp := spDraws K Tm
/-- numbers of at most thirty figures, and what is near them -/
def Sf (i : Int) : Prop := -10000000000000000000000000000000 < i ∧ i < 10000000000000000000000000000000
theorem Sf.sm {i : Int} (h : Sf i) : Sm i := ⟨by have := h.1; omega, by have := h.2; omega⟩
/-- a number below least or beyond most -/
def spFar (K : PySem.W.Frag) : Sp := fun vs H Q _ => ∃ (S : Addr) (least most : Int), vs = [.ref S, .int least, .int most] ∧ StAt K S H ∧
  -100000000000000 ≤ least ∧ least ≤ 100000000000000 ∧ -100000000000000 ≤ most ∧ most ≤ 100000000000000 ∧
  ∀ (v : Int) (H' : Hp), (v < least ∨ most < v) → Sf v → But S H H' → StAt K S H' → Q (.int v) H'
end Lx

namespace Lx
open PySem PySem.Spec PyProof.Rows L2 LamX NdefX
/-! ### alike, and of the same kinds -/
def mk : Bool → List V → HO
  | true => .lst
  | false => .tup
def kn : Bool → String
  | true => "list"
  | false => "tuple"
theorem mk_ty {K : PySem.W.Frag} {H : Hp} {p : Addr} {b : Bool} {xs : List V} (e : H p = some (mk b xs)) : TyX K H (.ref p) (.type (kn b)) := by
  cases b with
  | true => exact .base (.lst e)
  | false => exact .base (.tup e)
theorem mk_sq {K : PySem.W.Frag} {H : Hp} {p : Addr} {b : Bool} {xs : List V} (e : H p = some (mk b xs)) : SqL K H p xs ∨ SqT K H p xs := by
  cases b with
  | true => exact .inl (SqL.of e)
  | false => exact .inr (SqT.of e)
theorem mk_any {K : PySem.W.Frag} {b : Bool} : PySem.W.kitAny K (.type (kn b)) [.type "tuple", .type "list"] = some true := by
  cases b with
  | true => exact kitAny_cons (b := false) (kit_ty (by decide +kernel)) (fun _ => kitAny_cons (b := true) (kit_ty (by decide +kernel)) (fun z => nomatch z) fun _ => rfl) (fun z => nomatch z)
  | false => exact kitAny_cons (b := true) (kit_ty (by decide +kernel)) (fun z => nomatch z) fun _ => rfl
theorem mk_one {K : PySem.W.Frag} {b : Bool} : PySem.W.kitOne K (.type (kn b)) (.type "list") = some b := by
  cases b with
  | true => exact kit_ty (by decide +kernel)
  | false => exact kit_ty (by decide +kernel)
theorem any_no {K : PySem.W.Frag} {t : String} (h1 : kitB t "tuple" = some false) (h2 : kitB t "list" = some false) : PySem.W.kitAny K (.type t) [.type "tuple", .type "list"] = some false :=
  kitAny_cons (b := false) (kit_ty h1) (fun _ => kitAny_cons (b := false) (kit_ty h2) (fun _ => kitAny_nil) (fun z => nomatch z)) (fun z => nomatch z)
theorem mk_ix {K : PySem.W.Frag} {H : Hp} {p : Addr} {b : Bool} {xs : List V} {i : Int} {v : V} {Q : VK} (e : H p = some (mk b xs)) (a : atI xs i = some v) (q : Q v H) : rIx K (.ref p) (.int i) H Q := by
  cases b with
  | true => exact .inl ⟨p, xs, i, v, rfl, rfl, SqL.of e, a, q⟩
  | false => exact .inr (.inl ⟨p, xs, i, v, rfl, rfl, SqT.of e, a, q⟩)
/-- found, due: the same; sp: what is promised of their items -/
def spSame (sp : Sp) : Sp := fun vs H Q _ => ∃ x y : V, vs = [x, y] ∧ (∀ H', Same H H' → Q (.bl true) H') ∧
  ((x = y ∧ flatV x = true) ∨ ∃ (b : Bool) (p q : Addr) (xs ys : List V), x = .ref p ∧ y = .ref q ∧ H p = some (mk b xs) ∧ H q = some (mk b ys) ∧ xs.length = ys.length ∧ ys.length ≤ 1000 ∧
    ∀ (i : Nat) (u v : V), xs[i]? = some u → ys[i]? = some v → ∀ (H' : Hp) (Q' : VK), Same H H' → (∀ H'', Same H' H'' → Q' (.bl true) H'') → sp [u, v] H' Q' L2.E0)
theorem spSame_flat {sp : Sp} {x : V} {H : Hp} {Q : VK} {E : XK} (h : flatV x = true) (q : ∀ H', Same H H' → Q (.bl true) H') : spSame sp [x, x] H Q E := ⟨x, x, rfl, q, .inl ⟨rfl, h⟩⟩
/-- no promise at all -/
abbrev spNo : Sp := fun _ _ _ _ => False
theorem no_ok {P : Program} {w : World} {K : PySem.W.Frag} {mg : Str → Option Value} {base : Heap} {f : Addr} {fd : FuncData} {ps : List Str} : FnOk P w K mg base CX0 0 f fd ps spNo :=
  ⟨fun _ _ _ _ z => z.elim, fun _ _ _ _ _ _ _ _ _ _ _ _ _ z => z.elim⟩
/-- two flat things, or two lists (tuples) of flat things -/
abbrev spSame1 : Sp := spSame (spSame spNo)
theorem spSame1_seq {H : Hp} {p q : Addr} {b : Bool} {xs : List V} {Q : VK} {E : XK} (hp : H p = some (mk b xs)) (hq : H q = some (mk b xs)) (hl : xs.length ≤ 1000) (hf : ∀ x ∈ xs, flatV x = true)
    (h : ∀ H', Same H H' → Q (.bl true) H') : spSame1 [.ref p, .ref q] H Q E := by
  refine ⟨_, _, rfl, h, .inr ⟨b, p, q, xs, xs, rfl, rfl, hp, hq, rfl, hl, fun i u v e1 e2 H' Q' _ k => ?_⟩⟩
  rw [e1] at e2
  cases e2
  exact spSame_flat (hf u (List.mem_of_getElem? e1)) k
/-- the last part of spSame1 for two lists (tuples) of flat things -/
theorem same1_or {H : Hp} {p q : Addr} {b : Bool} {xs : List V} (hp : H p = some (mk b xs)) (hq : H q = some (mk b xs)) (hl : xs.length ≤ 1000) (hf : xs.all flatV = true) :
    ((V.ref p = V.ref q ∧ flatV (V.ref p) = true) ∨ ∃ (b : Bool) (p' q' : Addr) (xs ys : List V), V.ref p = .ref p' ∧ V.ref q = .ref q' ∧ H p' = some (mk b xs) ∧ H q' = some (mk b ys) ∧ xs.length = ys.length ∧ ys.length ≤ 1000 ∧
      ∀ (i : Nat) (u v : V), xs[i]? = some u → ys[i]? = some v → ∀ (H' : Hp) (Q' : VK), Same H H' → (∀ H'', Same H' H'' → Q' (.bl true) H'') → spSame spNo [u, v] H' Q' L2.E0) := by
  refine .inr ⟨b, p, q, xs, xs, rfl, rfl, hp, hq, rfl, hl, fun i u v e1 e2 H' Q' _ k => ?_⟩
  rw [e1] at e2
  cases e2
  exact spSame_flat (flat_at hf e1) k
theorem same_new {H : Hp} {p : Addr} {o : HO} (h : H p = none) : Same H (upd H p o) := fun b x e => by
  rw [upd_ne (ne_of_none e h)]
  exact e
end Lx

namespace Lx
open PySem PySem.Spec PyProof.Rows L2 LamX NdefX
/-! ### xs.count(y) of flat things -/
theorem countU {y : V} : ∀ {ys : List V} {us : List Value}, Vals ys us → ys.all flatV = true → us.countP (eqU y) = ys.countP (fun z => eqV z y)
  | _, _, .nil, _ => rfl
  | _, _, .cons r t, f => by
    simp only [List.all_cons, Bool.and_eq_true] at f
    rw [List.countP_cons, List.countP_cons, countU t f.2, eqU_of r f.1]
theorem mt_fcount {X : Cx} : MtR X "list.count" (fun x xs H Q => ∃ (p : Addr) (ys : List V) (y : V), x = .ref p ∧ xs = [y] ∧ SqL X.K H p ys ∧ flatV y = true ∧ ys.all flatV = true ∧
    Q (.int ((ys.countP fun z => eqV z y : Nat) : Int)) H) := by
  intro pins s σ H x xs v us Q I rx rxs h
  obtain ⟨p, ys, y, rfl, rfl, hs, fy, fys, q⟩ := h
  cases rx
  obtain ⟨uy, rfl, ry⟩ := rxs.one
  obtain ⟨its, rv, ⟨⟨cls, dd, data, sl⟩, n, ho, hc, hdn, hd⟩, hlen⟩ := I.list hs
  simp only at hc hd
  subst hc hd
  refine call_meets PySem.F.slot_list_count ⟨_, ho, rfl⟩ PySem.F.entry_list_count (PySem.F.args_list_count_2 _ _)
    (SeqAt.list_countAt p its.toArray n dd sl uy (eqU y)) ⟨ho, fun u hu => mem_eqAt ry fy rv fys u (by simpa using hu), ?_⟩
  refine ⟨.int ((ys.countP fun z => eqV z y : Nat) : Int), H, I.tok _, ⟨s.toks, ?_⟩, q⟩
  have e : its.toArray.toList.countP (eqU y) = ys.countP fun z => eqV z y := countU rv fys
  show Value.int ((its.toArray.toList.countP (eqU y) : Nat) : Int) s.toks = _
  rw [e]
/-! ### the kinds of refusals -/
def rIsK (K : PySem.W.Frag) (cls : Value) (d : Option Addr) (a : Addr) : List V → Hp → VK → Prop := fun xs H Q => ∃ D : Addr, cls = .ref D ∧ d = none ∧ ExcC K D ∧ rIsE K D a xs H Q
theorem call_isK {X : Cx} {a : Addr} {cls : Value} {d : Option Addr} {oe : Obj} {pn : List (Addr × Obj)} (hz : Zc cls d oe) (hf : ∃ vs, oe.data = .fields vs) :
    CallR (X.suite a ((a, oe) :: pn)) (.builtin "isinstance") (rIsK X.K cls d a) := by
  intro pins s σ H xs us Q I r h
  obtain ⟨D, rfl, rfl, C, h⟩ := h
  exact call_isE C hz hf pins s σ H xs us Q I r h
def wds : List Str := ["BadWheel", "BadRule", "BadSeen", "BadGaps", "BadSpan", "BadLong", "NoGap", "NoSpan"]
/-- where the nine classes stand -/
structure Nine (mg : Str → Option Value) (CE : Addr) (Cs : Fin 8 → Addr) : Prop where
  g : mg "WrapError" = some (.ref CE)
  g0 : mg "BadWheel" = some (.ref (Cs 0))
  g1 : mg "BadRule" = some (.ref (Cs 1))
  g2 : mg "BadSeen" = some (.ref (Cs 2))
  g3 : mg "BadGaps" = some (.ref (Cs 3))
  g4 : mg "BadSpan" = some (.ref (Cs 4))
  g5 : mg "BadLong" = some (.ref (Cs 5))
  g6 : mg "NoGap" = some (.ref (Cs 6))
  g7 : mg "NoSpan" = some (.ref (Cs 7))
  isi : mg "isinstance" = none
  ve : mg "ValueError" = none
/-- the class at D is the j-th kind, and no other -/
structure Kd (K : PySem.W.Frag) (CE : Addr) (Cs : Fin 8 → Addr) (D : Addr) (j : Fin 8) : Prop where
  c : ExcC K D
  x : PySem.W.exmOne K (.ref D) (.ref CE) = some true
  i : ∀ i : Fin 8, PySem.W.kitOne K (.ref D) (.ref (Cs i)) = some (decide (j = i))
  v : PySem.W.kitOne K (.ref D) (.type "ValueError") = some true
def bits (j : Fin 8) : List V := [.bl (decide (j = 0)), .bl (decide (j = 1)), .bl (decide (j = 2)), .bl (decide (j = 3)), .bl (decide (j = 4)), .bl (decide (j = 5)), .bl (decide (j = 6)), .bl (decide (j = 7))]
theorem bits_flat : ∀ j, (bits j).all flatV = true := by decide
theorem bits_count : ∀ j, (bits j).countP (fun z => eqV z (.bl true)) = 1 := by decide
theorem bits_at : ∀ j : Fin 8, (bits j)[j.val]? = some (.bl true) := by decide
theorem bits_no : ∀ j m : Fin 8, m < j → (bits j)[m.val]? = some (.bl false) := by decide
theorem wds_at : ∀ j : Fin 8, atI (wds.map V.str) (j.val : Int) = some (.str (wds.getD j.val "")) := by
  intro j
  refine atI_nat ?_
  match j with
  | 0 => rfl
  | 1 => rfl
  | 2 => rfl
  | 3 => rfl
  | 4 => rfl
  | 5 => rfl
  | 6 => rfl
  | 7 => rfl
/-- what _law_kind makes of the lambda's promise tl -/
def TTK (K : PySem.W.Frag) (CE : Addr) (Cs : Fin 8 → Addr) : TTy := fun tl H Q =>
  ∀ E : XK, (∀ (D : Addr) (j : Fin 8) (H' : Hp), Kd K CE Cs D j → (∀ H'', Same H' H'' → Q (.str (wds.getD j.val "")) H'') → E (.ref D) none H') → tl E H Q
/-- a block by what it means -/
theorem pss_sem {X : Cx} {body : List Stmt} {ts : TS} (h : ∀ D σ H, ts D σ H → ∃ t, PSs X body t ∧ t D σ H) : PSs X body ts := by
  refine ⟨fun pins s σ H D I z => ?_⟩
  obtain ⟨t, ht, hq⟩ := h D σ H z
  exact ht.run pins s σ H D I hq
end Lx

namespace Lx
open PySem PySem.Spec PyProof.Rows L2 LamX NdefX
/-! ### where a lambda stands in the text -/
def forBody : Stmt → List Stmt
  | .For _ _ b _ _ => b
  | _ => []
def ifTest : Stmt → Expr
  | .If t _ _ _ => t
  | _ => .Constant .none 0 ⟨0, 0, 0, 0⟩
def asgV : Stmt → Expr
  | .Assign _ v _ => v
  | _ => .Constant .none 0 ⟨0, 0, 0, 0⟩
def exprV : Stmt → Expr
  | .Expr v _ => v
  | _ => .Constant .none 0 ⟨0, 0, 0, 0⟩
def lstAt (i : Nat) : Expr → Expr
  | .List es _ => es.getD i (.Constant .none 0 ⟨0, 0, 0, 0⟩)
  | _ => .Constant .none 0 ⟨0, 0, 0, 0⟩
def callArg (i : Nat) : Expr → Expr
  | .Call _ es _ _ => es.getD i (.Constant .none 0 ⟨0, 0, 0, 0⟩)
  | _ => .Constant .none 0 ⟨0, 0, 0, 0⟩
def lamP : Expr → Arguments
  | .Lambda p _ _ _ => p
  | _ => { posonlyargs := [], args := [], vararg := none, kwonlyargs := [], kw_defaults := [], kwarg := none, defaults := [] }
def lamB : Expr → Expr
  | .Lambda _ b _ _ => b
  | e => e
def lamS : Expr → Scope
  | .Lambda _ _ s _ => s
  | _ => { kind := .function, names := [], isGenerator := false, isCoroutine := false }
/-! ### heaps with tables -/
theorem tabs_but {K : PySem.W.Frag} {T : List (Addr × Str)} {S : Addr} {H H' : Hp} (t : Tabs T H) (b : But S H H') (s : StAt K S H) : Tabs T H' := by
  intro p hp
  obtain ⟨ps, h1, h2, h3⟩ := t p hp
  refine ⟨ps, b _ _ (s.ne h1 fun _ z => by cases z) h1, h2, fun pos cv hc => ?_⟩
  obtain ⟨c, e1, e2⟩ := h3 pos cv hc
  exact ⟨c, e1, b _ _ (s.ne e2 fun _ z => by unfold CodeO at z; cases z) e2⟩
theorem tabs_same {T : List (Addr × Str)} {H H' : Hp} (t : Tabs T H) (b : Same H H') : Tabs T H' := t.ext b
theorem put_keep {H : Hp} {p b : Addr} {xs : List V} {o u : HO} (h : H p = some (.lst xs)) (e : H b = some u) (n : ∀ ys, u ≠ .lst ys) : upd H p o b = some u := by
  rw [upd_ne (fun z => n xs (by rw [z, h] at e; exact (Option.some.inj e).symm))]
  exact e
theorem tabs_put {T : List (Addr × Str)} {H : Hp} {p : Addr} {xs : List V} {o : HO} (t : Tabs T H) (h : H p = some (.lst xs)) : Tabs T (upd H p o) := by
  intro q hq
  obtain ⟨ps, h1, h2, h3⟩ := t q hq
  refine ⟨ps, put_keep h h1 (fun _ z => by cases z), h2, fun pos cv hc => ?_⟩
  obtain ⟨c, e1, e2⟩ := h3 pos cv hc
  exact ⟨c, e1, put_keep h e2 fun _ z => by unfold CodeO at z; cases z⟩
theorem extN_put {G H : Hp} {p : Addr} {o : HO} (x : ExtN G H) (n : G p = none) : ExtN G (upd H p o) := fun b u e k => by
  rw [upd_ne (ne_of_none e n)]
  exact x b u e k
theorem lm_put {H : Hp} {p f : Addr} {F : NF} {eb : Expr} {xs : List V} {o : HO} (e : H f = some (LmO f F eb)) (h : H p = some (.lst xs)) : upd H p o f = some (LmO f F eb) := put_keep h e fun _ z => by unfold LmO at z; cases z
theorem co_put {H : Hp} {p c : Addr} {q : Str} {xs : List V} {o : HO} (e : H c = some (CodeO c q)) (h : H p = some (.lst xs)) : upd H p o c = some (CodeO c q) := put_keep h e fun _ z => by unfold CodeO at z; cases z
theorem lm_ext {H H' : Hp} {f : Addr} {F : NF} {eb : Expr} (x : ExtN H H') (e : H f = some (LmO f F eb)) : H' f = some (LmO f F eb) := x _ _ e lmO_ne
theorem co_ext {H H' : Hp} {c : Addr} {q : Str} (x : ExtN H H') (e : H c = some (CodeO c q)) : H' c = some (CodeO c q) := x _ _ e codeO_ne
theorem lst_ext {H H' : Hp} {p : Addr} {xs : List V} (x : ExtN H H') (e : H p = some (.lst xs)) : H' p = some (.lst xs) := x _ _ e fun _ z => by cases z
/-- a lambda and its code -/
def LmAt (H : Hp) (f : Addr) (F : NF) (eb : Expr) : Prop := H f = some (LmO f F eb) ∧ H F.c = some (CodeO F.c F.qual)
theorem LmAt.put {H : Hp} {p f : Addr} {F : NF} {eb : Expr} {xs : List V} {o : HO} (l : LmAt H f F eb) (h : H p = some (.lst xs)) : LmAt (upd H p o) f F eb := ⟨lm_put l.1 h, co_put l.2 h⟩
theorem LmAt.ext {H H' : Hp} {f : Addr} {F : NF} {eb : Expr} (l : LmAt H f F eb) (x : ExtN H H') : LmAt H' f F eb := ⟨lm_ext x l.1, co_ext x l.2⟩
theorem LmAt.same {H H' : Hp} {f : Addr} {F : NF} {eb : Expr} (l : LmAt H f F eb) (x : Same H H') : LmAt H' f F eb := ⟨x _ _ l.1, x _ _ l.2⟩
/-! ### since and order of true times -/
theorem mod_to {t f n : Int} (h0 : 0 ≤ f) (h1 : f < n) : ((t + f) % n - t % n) % n = f := by
  rw [← Int.sub_emod, show t + f - t = f by omega]
  exact Int.emod_eq_of_lt h0 h1
theorem mod_back {t f n : Int} : (t % n - (t + f) % n) % n = (-f) % n := by
  rw [← Int.sub_emod, show t - (t + f) = -f by omega]
theorem neg_mod {f n : Int} (h0 : 0 < f) (h1 : f < n) : (-f) % n = n - f := by
  have e : -f = (n - f) + n * (-1) := by omega
  rw [e, Int.add_mul_emod_self_left]
  exact Int.emod_eq_of_lt (by omega) (by omega)
/-- the four ways that two shown numbers may lie -/
def backs : List (Key × V) := [(.inr "same", .str "same"), (.inr "opposite", .str "opposite"), (.inr "ahead", .str "behind"), (.inr "behind", .str "ahead")]
theorem ord_back {f n : Int} (h0 : 0 ≤ f) (h1 : f < n) : valV (mergeK [] backs) (.inr (ordW n f)) = some (.str (ordW n ((-f) % n))) := by
  by_cases z : f = 0
  · subst z
    have e1 : ordW n 0 = "same" := by unfold ordW; rfl
    rw [show (-(0 : Int)) % n = 0 by simp, e1]
    decide +kernel
  · rw [neg_mod (by omega) h1]
    unfold ordW
    rw [if_neg (show ¬ 2 * f = 0 by omega), if_neg (show ¬ 2 * (n - f) = 0 by omega)]
    by_cases a : 2 * f = n
    · rw [if_pos a, if_pos (show 2 * (n - f) = n by omega)]
      decide +kernel
    · rw [if_neg a, if_neg (show ¬ 2 * (n - f) = n by omega)]
      by_cases b : 2 * f < n
      · rw [if_pos b, if_neg (show ¬ 2 * (n - f) < n by omega)]
        decide +kernel
      · rw [if_neg b, if_pos (show 2 * (n - f) < n by omega)]
        decide +kernel
end Lx

namespace Lx
open PySem PySem.Spec PyProof.Rows L2 LamX NdefX
/-! ### the end of a law, its makers' tables and the loose names told -/
theorem walk_ofX {l : PySem.W.OpenLaw} {n k : Nat} {q : Program} {loose : List Str} {XP : (Str → Option Value) → Heap → Prop} {YP : World → Heap → Prop} {d : DefRec} {K : Params → PySem.W.Frag} {CX : World → CXT} {x : Str}
    (hn : l.most = some n) (hn2 : n ≤ sizeLine) (hdf : d.params.defaults = []) (hr : Room k callerA) (hY : ∀ (w : World) (h : Heap), YP w h → (K w.params).In h)
    (F : ∀ (w : World) (mg : Str → Option Value) (fa : Addr) (h : Heap), YP w h → XP mg h → (K w.params).In h → h.Ns mainGlobals mg → mg d.name = some (.ref fa) → LawAtS l w (K w.params) (CX w) k n x mg fa h)
    (hCX : ∀ (w : World) (H : Hp) (s : Shared) (e : Value) (s' : Shared), CX w [] H s (fun _ _ _ => False) e s' → False) :
    PySem.W.WalkO q loose XP YP l.row.toRowW d [] (fun f vs => PySem.call f vs) := by
  refine Att.attach_callB hn hdf ?_
  intro w s₀ s₁ mg mb fa o pm cd doc a vs ns G Y ho hd hcd hmg hobj hints hlen hbits hg
  have KX := hY w _ Y
  obtain ⟨fd, cs, sp, hT, nT, C, hb, hsp, hF⟩ := F w mg fa _ Y G.X KX G.T.g hmg
  refine law_callTs KX G.T.g G.T.b G.T.builtins G.T.nolimit hg hT nT C G.T.bmain hobj hints (Nat.le_trans hlen hn2) hr hF hb ?_ ?_
  · intro H hH hS
    exact hsp H a ns hlen hbits hH hS
  · intro H e s'
    exact hCX w H s₁ e s'
theorem loose_int {mg : Str → Option Value} {h : Heap} {p : Program} {lv : List (Str × PySem.W.WData)} {x : Str} {i : Int} (X : PySem.W.XL p lv mg h) (m : ((x, PySem.W.WData.int i) : Str × PySem.W.WData) ∈ lv) : ∃ t, mg x = some (.int i t) := by
  obtain ⟨v, e, r⟩ := X.2.val _ m
  cases r
  exact ⟨_, e⟩
/-! ### facts of the written part, for classes of refusals -/
theorem kit_ref {K : PySem.W.Frag} {D C : Addr} {b : Bool} (h1 : PySem.W.isClsIn K C = true) (ht : PySem.W.typeIn K (.ref C) = some (.type "type")) (h : PySem.W.subIn K (.ref D) (.ref C) = some b) (hb : D = C → b = true) :
    PySem.W.kitOne K (.ref D) (.ref C) = some b := by
  unfold PySem.W.kitOne PySem.W.kitCls
  by_cases e : D = C
  · subst e
    rw [if_pos (by simp), hb rfl]
  · rw [if_neg (by simpa using e)]
    have h1' : (PySem.W.clsIn K C).isSome = true := h1
    show (if ((PySem.W.clsIn K C).isSome && PySem.W.typeIn K (.ref C) == some (.type "type")) = true then PySem.W.subIn K (.ref D) (.ref C) else none) = some b
    rw [h1', ht]
    exact h
theorem kit_ve {K : PySem.W.Frag} {D : Addr} (h : PySem.W.subIn K (.ref D) (.type "ValueError") = some true) : PySem.W.kitOne K (.ref D) (.type "ValueError") = some true := by
  unfold PySem.W.kitOne PySem.W.kitCls
  rw [if_neg (by simp)]
  show (if PySem.W.kitMeta "ValueError" = true then PySem.W.subIn K (.ref D) (.type "ValueError") else none) = some true
  rw [if_pos (by decide +kernel)]
  exact h
/-- what the written part says of one class of refusals -/
structure Cl (K : PySem.W.Frag) (C : Addr) : Prop where
  c : ExcC K C
  i : PySem.W.isClsIn K C = true
  t : PySem.W.typeIn K (.ref C) = some (.type "type")
  v : PySem.W.subIn K (.ref C) (.type "ValueError") = some true
theorem Kd.of {K : PySem.W.Frag} {CE : Addr} {Cs : Fin 8 → Addr} {j : Fin 8} (cl : Cl K (Cs j)) (hE : PySem.W.subIn K (.ref CE) (.type "BaseException") = some true) (hdE : PySem.W.hasDictIn K CE = true) (tE : PySem.W.typeIn K (.ref CE) = some (.type "type"))
    (hs : PySem.W.subIn K (.ref (Cs j)) (.ref CE) = some true) (is : ∀ i, PySem.W.isClsIn K (Cs i) = true) (ts : ∀ i, PySem.W.typeIn K (.ref (Cs i)) = some (.type "type"))
    (ss : ∀ i, PySem.W.subIn K (.ref (Cs j)) (.ref (Cs i)) = some (decide (j = i))) (inj : ∀ i, Cs j = Cs i → j = i) : Kd K CE Cs (Cs j) j :=
  ⟨cl.c, PySem.W.exm_ref hE hdE tE hs, fun i => kit_ref (is i) (ts i) (ss i) fun e => decide_eq_true (inj i e), kit_ve cl.v⟩
end Lx

namespace Lx
open PySem PySem.Spec PyProof.Rows L2 LamX NdefX
/-! ### math.lcm -/
def lcmI (a b : Int) : Int := ((Nat.lcm a.natAbs b.natAbs : Nat) : Int)
def rLcm : List V → Hp → VK → Prop := fun vs H Q => ∃ a b : Int, vs = [.int a, .int b] ∧ a.natAbs < 2 ^ 64 ∧ b.natAbs < 2 ^ 64 ∧ Q (.int (lcmI a b)) H
theorem lcm_log {a b : Int} (ha : a.natAbs < 2 ^ 64) (hb : b.natAbs < 2 ^ 64) : ((Nat.lcm a.natAbs b.natAbs : Nat) : Int).natAbs.log2 < bitsLine := by
  have h1 : Nat.lcm a.natAbs b.natAbs ≤ a.natAbs * b.natAbs := by
    rw [← Nat.gcd_mul_lcm a.natAbs b.natAbs]
    by_cases z : Nat.gcd a.natAbs b.natAbs = 0
    · have h1 := Nat.gcd_eq_zero_iff.mp z
      rw [h1.1, h1.2]; decide
    · exact Nat.le_mul_of_pos_left _ (Nat.pos_of_ne_zero z)
  have h2 : a.natAbs * b.natAbs < 2 ^ 128 := by
    have h3 : a.natAbs * b.natAbs ≤ 2 ^ 64 * b.natAbs := Nat.mul_le_mul_right _ (Nat.le_of_lt ha)
    have h4 : 2 ^ 64 * b.natAbs < 2 ^ 64 * 2 ^ 64 := (Nat.mul_lt_mul_left (by decide)).mpr hb
    exact Nat.lt_of_le_of_lt h3 (Nat.lt_of_lt_of_le h4 (by decide))
  have h5 := PySem.Flt.log2_lt_of (n := ((Nat.lcm a.natAbs b.natAbs : Nat) : Int).natAbs) (k := 128) (by decide) (by rw [Int.natAbs_natCast]; omega)
  have : 128 ≤ bitsLine := by decide +kernel
  omega
theorem cr_lcm {X : Cx} : CallR X (.builtin "math.lcm") rLcm := by
  intro pins s σ H vs us Q I r h
  obtain ⟨a, b, rfl, ha, hb, q⟩ := h
  obtain ⟨t, u, rfl⟩ := Vals.int2 r
  have e : (Nat.lcm 1 a.natAbs).lcm b.natAbs = Nat.lcm a.natAbs b.natAbs := by rw [Nat.lcm_one_left]
  refine PySem.W.mg_lcm ha hb (by rw [e]; exact lcm_log ha hb) ?_
  rw [e]
  exact ⟨.int (lcmI a b), H, Inv.tok I (s.toks + 1), ⟨s.toks, rfl⟩, q⟩
end Lx

namespace Lx
/-! ### the mathematics of rules -/
inductive Rul | up (l : Int) | near | pair (o : Int) | about (f : Int)
def RulOk (n : Int) : Rul → Prop
  | .up l => 0 ≤ l ∧ l ≤ 1000000000000
  | .near => True
  | .pair o => Wh o
  | .about f => 0 ≤ f ∧ 2 * f < n
/-- the bounds -/
def bd (n : Int) : Rul → Int × Int
  | .up l => (l, l + n - 1)
  | .near => (-((n - 1) / 2), n / 2)
  | .pair o => (0, lcmI n o - 1)
  | .about f => (-f, f)
/-- the bounds of what gap tells, with an about -/
def gd (n : Int) (r : Rul) (c : Int) : Int × Int := match r with
  | .about f => (c - f, c + f)
  | r => bd n r
/-- a number has the rests of how far it is -/
def Fits (n : Int) (r : Rul) (d : Int × Int) (g : Int) : Prop := match r with
  | .pair o => n ∣ g - d.1 ∧ o ∣ g - d.2
  | _ => n ∣ g - d.1
/-- what gap tells -/
def GapR (n : Int) (r : Rul) (d : Int × Int) (c : Int) : Option Int → Prop
  | some g => (gd n r c).1 ≤ g ∧ g ≤ (gd n r c).2 ∧ Fits n r d g
  | none => ∀ g, (gd n r c).1 ≤ g → g ≤ (gd n r c).2 → ¬ Fits n r d g
theorem lcmI_dvd {a b x : Int} (h1 : a ∣ x) (h2 : b ∣ x) : lcmI a b ∣ x := by
  have h := Nat.lcm_dvd (Int.natAbs_dvd_natAbs.mpr h1) (Int.natAbs_dvd_natAbs.mpr h2)
  exact Int.natAbs_dvd_natAbs.mp (by unfold lcmI; rw [Int.natAbs_natCast]; exact h)
theorem dvd_lcm1 (a b : Int) : a ∣ lcmI a b := by
  have h := Nat.dvd_lcm_left a.natAbs b.natAbs
  exact Int.natAbs_dvd_natAbs.mp (by unfold lcmI; rw [Int.natAbs_natCast]; exact h)
theorem dvd_lcm2 (a b : Int) : b ∣ lcmI a b := by
  have h := Nat.dvd_lcm_right a.natAbs b.natAbs
  exact Int.natAbs_dvd_natAbs.mp (by unfold lcmI; rw [Int.natAbs_natCast]; exact h)
theorem lcm_pos {a b : Int} (ha : 0 < a) (hb : 0 < b) : 0 < lcmI a b := by
  have h := Nat.lcm_pos (m := a.natAbs) (n := b.natAbs) (by omega) (by omega)
  unfold lcmI; omega
theorem lcm_gcd {a b : Int} (ha : 0 < a) (hb : 0 < b) : a * b = (Int.gcd a b : Int) * lcmI a b := by
  have h := Nat.gcd_mul_lcm a.natAbs b.natAbs
  have e : ((a.natAbs.gcd b.natAbs * a.natAbs.lcm b.natAbs : Nat) : Int) = ((a.natAbs * b.natAbs : Nat) : Int) := by rw [h]
  rw [Int.natCast_mul, Int.natCast_mul, Int.natAbs_of_nonneg (Int.le_of_lt ha), Int.natAbs_of_nonneg (Int.le_of_lt hb)] at e
  exact e.symm
theorem gcd_pos {a b : Int} (ha : 0 < a) : 0 < (Int.gcd a b : Int) := by
  have h := Int.gcd_pos_of_ne_zero_left b (a := a) (by omega)
  omega
/-- below the modulus alike is the same -/
theorem dvd_small {m x : Int} (h : m ∣ x) (h1 : -m < x) (h2 : x < m) : x = 0 := by
  obtain ⟨k, rfl⟩ := h
  have hm : 0 < m := by
    rcases Int.lt_trichotomy m 0 with z | z | z
    · omega
    · subst z; simp at h1
    · exact z
  have k1 : k < 1 := by
    rcases Int.lt_or_le k 1 with z | z
    · exact z
    · have := Int.mul_le_mul_of_nonneg_left z (Int.le_of_lt hm); omega
  have k2 : -1 < k := by
    rcases Int.lt_or_le (-1) k with z | z
    · exact z
    · have := Int.mul_le_mul_of_nonneg_left z (Int.le_of_lt hm); omega
  have : k = 0 := by omega
  subst this; simp
theorem gd_wide {n c : Int} {r : Rul} (hn : Wh n) (h : RulOk n r) : (gd n r c).2 - (gd n r c).1 < match r with | .pair o => lcmI n o | _ => n := by
  obtain ⟨h1, h2⟩ := hn
  cases r with
  | up l => show l + n - 1 - l < n; omega
  | near => show n / 2 - (-((n - 1) / 2)) < n; omega
  | pair o => show lcmI n o - 1 - 0 < lcmI n o; omega
  | about f => obtain ⟨h3, h4⟩ : 0 ≤ f ∧ 2 * f < n := h; show c + f - (c - f) < n; omega
theorem dvd_sub3 {m a b d : Int} (h1 : m ∣ a - d) (h2 : m ∣ b - d) : m ∣ a - b := by
  have h := Int.dvd_sub h1 h2
  rwa [show a - d - (b - d) = a - b by omega] at h
/-- within the bounds there is one at most -/
theorem gap_one {n c g g2 : Int} {r : Rul} {d : Int × Int} (hn : Wh n) (h : RulOk n r) (h1 : (gd n r c).1 ≤ g) (h2 : g ≤ (gd n r c).2) (h3 : Fits n r d g) (h4 : (gd n r c).1 ≤ g2) (h5 : g2 ≤ (gd n r c).2) (h6 : Fits n r d g2) : g = g2 := by
  have w := gd_wide (c := c) hn h
  suffices g - g2 = 0 by omega
  cases r with
  | up l => exact dvd_small (dvd_sub3 h3 h6) (by simp only at w; omega) (by simp only at w; omega)
  | near => exact dvd_small (dvd_sub3 h3 h6) (by simp only at w; omega) (by simp only at w; omega)
  | about f => exact dvd_small (dvd_sub3 h3 h6) (by simp only at w; omega) (by simp only at w; omega)
  | pair o => exact dvd_small (lcmI_dvd (dvd_sub3 h3.1 h6.1) (dvd_sub3 h3.2 h6.2)) (by simp only at w; omega) (by simp only at w; omega)
/-- the least from lo on with the rest -/
theorem least_from {n lo d : Int} (hn : 0 < n) : n ∣ lo + (d % n - lo) % n - d ∧ lo ≤ lo + (d % n - lo) % n ∧ lo + (d % n - lo) % n < lo + n := by
  refine ⟨?_, ?_, ?_⟩
  · have h1 := Int.emod_emod_of_dvd d (Int.dvd_refl n)
    have h2 := Int.mul_ediv_add_emod (d % n - lo) n
    have h3 := Int.mul_ediv_add_emod d n
    generalize (d % n - lo) / n = a at h2
    generalize (d % n - lo) % n = b at h2 ⊢
    generalize d / n = e at h3
    refine ⟨-a - e, ?_⟩
    rw [Int.mul_sub, Int.mul_neg]
    omega
  · have := Int.emod_nonneg (d % n - lo) (by omega : n ≠ 0); omega
  · have := Int.emod_lt_of_pos (d % n - lo) hn; omega
theorem gap_up {n c lo : Int} {r : Rul} {d : Int × Int} (hn : Wh n) (hr : (∀ o, r ≠ .pair o) ∧ (∀ f, r ≠ .about f)) (e : lo = (bd n r).1) : GapR n r d c (some (lo + (d.1 % n - lo) % n)) := by
  obtain ⟨h1, h2, h3⟩ := least_from (n := n) (lo := lo) (d := d.1) (by have := hn.1; omega)
  subst e
  have hn1 := hn.1
  cases r with
  | pair o => exact absurd rfl (hr.1 o)
  | about f => exact absurd rfl (hr.2 f)
  | up l => exact ⟨h2, Int.le_sub_one_of_lt h3, h1⟩
  | near =>
    refine ⟨h2, ?_, h1⟩
    have h4 : (bd n .near).1 + n ≤ n / 2 + 1 := by show -((n - 1) / 2) + n ≤ n / 2 + 1; omega
    show _ ≤ n / 2
    omega
theorem gap_about {n c f : Int} {d : Int × Int} (hn : Wh n) (h : c - f + (d.1 % n - (c - f)) % n ≤ c + f) : GapR n (.about f) d c (some (c - f + (d.1 % n - (c - f)) % n)) := by
  obtain ⟨h1, h2, h3⟩ := least_from (n := n) (lo := c - f) (d := d.1) (by have := hn.1; omega)
  exact ⟨h2, h, h1⟩
theorem gap_about_no {n c f : Int} {d : Int × Int} (hn : Wh n) (h : c + f < c - f + (d.1 % n - (c - f)) % n) : GapR n (.about f) d c none := by
  obtain ⟨h1, h2, h3⟩ := least_from (n := n) (lo := c - f) (d := d.1) (by have := hn.1; omega)
  intro g g1 g2 g3
  have g1 : c - f ≤ g := g1
  have g2 : g ≤ c + f := g2
  have z := dvd_small (dvd_sub3 h1 g3) (by omega) (by omega)
  omega
/-- of a pair: what is counted -/
theorem gap_pair {n o g t q c : Int} {d : Int × Int} (hn : 0 < n) (ho : 0 < o) (hg : g = (Int.gcd n o : Int)) (ht : o ∣ g - t * n) (hm : (d.2 - d.1 % n) % g = 0) (hq : q = (d.2 - d.1 % n) / g * t % (o / g)) : GapR n (.pair o) d c (some (d.1 % n + q * n)) := by
  have gp : 0 < g := by rw [hg]; exact gcd_pos hn
  have gn : g ∣ n := by rw [hg]; exact Int.gcd_dvd_left n o
  have go : g ∣ o := by rw [hg]; exact Int.gcd_dvd_right n o
  obtain ⟨k, hk⟩ := go
  obtain ⟨l, hl⟩ := gn
  have kp : 0 < k := by
    rcases Int.lt_or_le 0 k with z | z
    · exact z
    · have := Int.mul_le_mul_of_nonneg_left z (Int.le_of_lt gp); omega
  have ek : o / g = k := by rw [hk]; exact Int.mul_ediv_cancel_left k (by omega)
  rw [ek] at hq
  have q0 : 0 ≤ q := by rw [hq]; exact Int.emod_nonneg _ (by omega)
  have q1 : q < k := by rw [hq]; exact Int.emod_lt_of_pos _ kp
  have r0 := Int.emod_nonneg d.1 (show n ≠ 0 by omega)
  have r1 := Int.emod_lt_of_pos d.1 hn
  have L : lcmI n o = k * n := by
    have h := lcm_gcd hn ho
    rw [← hg, hk, ← Int.mul_assoc, Int.mul_comm n g, Int.mul_assoc] at h
    have := Int.eq_of_mul_eq_mul_left (by omega : g ≠ 0) h
    rw [hk, ← this, Int.mul_comm]
  refine ⟨?_, ?_, ?_, ?_⟩
  · show 0 ≤ d.1 % n + q * n
    have := Int.mul_nonneg q0 (Int.le_of_lt hn); omega
  · show d.1 % n + q * n ≤ lcmI n o - 1
    rw [L]
    have h := Int.mul_le_mul_of_nonneg_right (show q ≤ k - 1 by omega) (Int.le_of_lt hn)
    rw [Int.sub_mul] at h
    omega
  · show n ∣ d.1 % n + q * n - d.1
    have h3 := Int.mul_ediv_add_emod d.1 n
    refine ⟨q - d.1 / n, ?_⟩
    rw [Int.mul_sub, Int.mul_comm n q]; omega
  · show o ∣ d.1 % n + q * n - d.2
    have hm2 := Int.mul_ediv_add_emod (d.2 - d.1 % n) g
    rw [hm] at hm2
    generalize hs : (d.2 - d.1 % n) / g = s at *
    have hq2 := Int.mul_ediv_add_emod (s * t) k
    rw [← hq] at hq2
    generalize s * t / k = u at hq2
    obtain ⟨v, hv⟩ := ht
    -- q = s t - k u; q n = s t n - k u n; t n = g - o v; s t n = s g - s o v; k n = k g l = o l
    refine ⟨-(s * v) - u * l, ?_⟩
    have e1 : q = s * t - k * u := by omega
    have e2 : q * n = s * (t * n) - k * u * n := by rw [e1, Int.sub_mul, Int.mul_assoc]
    have e3 : t * n = g - o * v := by omega
    have e4 : s * (t * n) = s * g - s * (o * v) := by rw [e3, Int.mul_sub]
    have e5 : k * u * n = o * (u * l) := by
      rw [hl, hk, Int.mul_comm k u, Int.mul_comm g k, Int.mul_assoc, Int.mul_assoc, Int.mul_left_comm u k, Int.mul_left_comm u g]
    have e6 : s * (o * v) = o * (s * v) := Int.mul_left_comm s o v
    have e7 : g * s = s * g := Int.mul_comm g s
    rw [e2, e4, e5, e6, Int.mul_sub, Int.mul_neg]
    omega
theorem gap_pair_no {n o g c : Int} {d : Int × Int} (hg : g = (Int.gcd n o : Int)) (hm : (d.2 - d.1 % n) % g ≠ 0) : GapR n (.pair o) d c none := by
  intro x _ _ h
  have gn : g ∣ n := by rw [hg]; exact Int.gcd_dvd_left n o
  have go : g ∣ o := by rw [hg]; exact Int.gcd_dvd_right n o
  obtain ⟨h1, h2⟩ : n ∣ x - d.1 ∧ o ∣ x - d.2 := h
  refine hm (Int.emod_eq_zero_of_dvd ?_)
  have h3 : n ∣ d.1 - d.1 % n := by
    have := Int.mul_ediv_add_emod d.1 n
    exact ⟨d.1 / n, by omega⟩
  have h4 : g ∣ (x - d.1) + (d.1 - d.1 % n) - (x - d.2) := Int.dvd_sub (Int.dvd_add (Int.dvd_trans gn h1) (Int.dvd_trans gn h3)) (Int.dvd_trans go h2)
  rwa [show (x - d.1) + (d.1 - d.1 % n) - (x - d.2) = d.2 - d.1 % n by omega] at h4
/-- one step of the greatest common divisor -/
theorem gcd_step {a b q : Int} : Int.gcd b (a - q * b) = Int.gcd a b := by
  rw [Int.gcd_comm b, Int.gcd_sub_mul_right_left]
end Lx

namespace Lx
open PySem PySem.Spec PyProof.Rows L2 LamX NdefX
/-! ### rules as tuples -/
def rulT : Rul → List V
  | .up l => [.str "up", .int l]
  | .near => [.str "near"]
  | .pair o => [.str "pair", .int o]
  | .about f => [.str "about", .int f]
/-- tuples that may be handed in as rules -/
inductive RulF : List V → Prop
  | two (k : Str) (s : Int) : RulF [.str k, .int s]
  | one (k : Str) (h : PyData.strOk k = true) : RulF [.str k]
  | nil : RulF []
  | three (k : Str) (s t : Int) (h : PyData.strOk k = true) : RulF [.str k, .int s, .int t]
theorem rulT_F (r : Rul) : RulF (rulT r) := by
  cases r with
  | up l => exact .two _ _
  | near => exact .one _ (by decide +kernel)
  | pair o => exact .two _ _
  | about f => exact .two _ _
def twoB (n : Int) (k : Str) (s : Int) : Bool :=
  if k = "up" then decide (0 ≤ s ∧ s ≤ 1000000000000) else if k = "pair" then decide (Wh s) else if k = "about" then decide (0 ≤ 2 * s ∧ 2 * s < n) else false
def RulB (n : Int) : List V → Bool
  | [.str k, .int s] => twoB n k s
  | [.str k] => decide (k = "near")
  | _ => false
theorem rul_of {n : Int} {xs : List V} (f : RulF xs) (h : RulB n xs = true) : ∃ r, xs = rulT r ∧ RulOk n r := by
  cases f with
  | nil => cases h
  | three k s t _ => cases h
  | one k _ =>
    have e : k = "near" := of_decide_eq_true h
    subst e
    exact ⟨.near, rfl, trivial⟩
  | two k s =>
    have h : twoB n k s = true := h
    unfold twoB at h
    split at h
    · rename_i e; subst e; exact ⟨.up s, rfl, of_decide_eq_true (p := 0 ≤ s ∧ s ≤ 1000000000000) h⟩
    split at h
    · rename_i e; subst e; exact ⟨.pair s, rfl, of_decide_eq_true (p := Wh s) h⟩
    split at h
    · rename_i e; subst e
      have h2 : 0 ≤ 2 * s ∧ 2 * s < n := of_decide_eq_true h
      exact ⟨.about s, rfl, by omega, h2.2⟩
    · cases h
theorem rul_B {n : Int} {r : Rul} (h : RulOk n r) : RulB n (rulT r) = true := by
  cases r with
  | up l => exact decide_eq_true h
  | near => exact decide_eq_true (p := ("near" : Str) = "near") rfl
  | pair o => exact decide_eq_true h
  | about f => exact decide_eq_true (show 0 ≤ 2 * f ∧ 2 * f < n from ⟨by have := h.1; omega, h.2⟩)
theorem rulT_inj : ∀ {r s : Rul}, rulT r = rulT s → r = s := by
  intro r s h
  cases r with
  | up l => cases s with
    | up m => have h2 := V.int.inj (List.cons.inj (List.cons.inj h).2).1; rw [h2]
    | near => cases (List.cons.inj h).2
    | pair o => have h2 := V.str.inj (List.cons.inj h).1; exact absurd h2 (by decide)
    | about o => have h2 := V.str.inj (List.cons.inj h).1; exact absurd h2 (by decide)
  | near => cases s with
    | near => rfl
    | up m => cases (List.cons.inj h).2
    | pair o => cases (List.cons.inj h).2
    | about o => cases (List.cons.inj h).2
  | pair l => cases s with
    | pair m => have h2 := V.int.inj (List.cons.inj (List.cons.inj h).2).1; rw [h2]
    | near => cases (List.cons.inj h).2
    | up o => have h2 := V.str.inj (List.cons.inj h).1; exact absurd h2 (by decide)
    | about o => have h2 := V.str.inj (List.cons.inj h).1; exact absurd h2 (by decide)
  | about l => cases s with
    | about m => have h2 := V.int.inj (List.cons.inj (List.cons.inj h).2).1; rw [h2]
    | near => cases (List.cons.inj h).2
    | up o => have h2 := V.str.inj (List.cons.inj h).1; exact absurd h2 (by decide)
    | pair o => have h2 := V.str.inj (List.cons.inj h).1; exact absurd h2 (by decide)
theorem sqT_same {K : PySem.W.Frag} {H H' : Hp} {a : Addr} {xs : List V} (s : Same H H') (h : SqT K H a xs) : SqT K H' a xs := by
  rcases h with (h | ⟨o, h⟩) | h
  · exact .inl (.inl (s _ _ h))
  · exact .inl (.inr ⟨o, s _ _ h⟩)
  · exact .inr h
/-- what is shown -/
def SeenAt (K : PySem.W.Frag) (H : Hp) (r : Rul) (v : V) (s : Int × Int) : Prop := match r with
  | .pair _ => ∃ p, v = .ref p ∧ SqT K H p [.int s.1, .int s.2]
  | _ => v = .int s.1
theorem SeenAt.same {K : PySem.W.Frag} {H H' : Hp} {r : Rul} {v : V} {s : Int × Int} (e : Same H H') (h : SeenAt K H r v s) : SeenAt K H' r v s := by
  cases r with
  | pair o => obtain ⟨p, e1, e2⟩ := h; exact ⟨p, e1, sqT_same e e2⟩
  | up _ => exact h
  | near => exact h
  | about _ => exact h
def ShOk (n : Int) (r : Rul) (s : Int × Int) : Prop := match r with
  | .pair o => Sn n s.1 ∧ Sn o s.2
  | _ => Sn n s.1
/-- what a rule's wheels show of a time -/
def shS (n : Int) (r : Rul) (t : Int) : Int × Int := match r with
  | .pair o => (t % n, t % o)
  | _ => (t % n, 0)
theorem sh_ok {n t : Int} {r : Rul} (hn : Wh n) (h : RulOk n r) : ShOk n r (shS n r t) := by
  have n0 : 0 < n := by have := hn.1; omega
  cases r with
  | pair o =>
    have o0 : 0 < o := by have := h.1; omega
    exact ⟨⟨Int.emod_nonneg _ (by omega), Int.emod_lt_of_pos _ n0⟩, Int.emod_nonneg _ (by omega), Int.emod_lt_of_pos _ o0⟩
  | up _ => exact ⟨Int.emod_nonneg _ (by omega), Int.emod_lt_of_pos _ n0⟩
  | near => exact ⟨Int.emod_nonneg _ (by omega), Int.emod_lt_of_pos _ n0⟩
  | about _ => exact ⟨Int.emod_nonneg _ (by omega), Int.emod_lt_of_pos _ n0⟩
theorem sh1 (k : Str) (h : PyData.strOk k = true) : SeqAt.shaped (.tuple [.str k]) = true := by simp [SeqAt.shaped, PyData.canLay0, PyData.canLayAll0, PyData.depth, PyData.depthAll, h]
theorem sh3 (k : Str) (s t : Int) (h : PyData.strOk k = true) : SeqAt.shaped (.tuple [.str k, .int s, .int t]) = true := by simp [SeqAt.shaped, PyData.canLay0, PyData.canLayAll0, PyData.depth, PyData.depthAll, h]
theorem eq1 (k : Str) : PyData.eqv (.tuple [.str k]) (.tuple [.str "near"]) = decide (k = "near") := by
  have e : PyData.eqv (.tuple [.str k]) (.tuple [.str "near"]) = (k == ("near" : Str)) := by simp [PyData.eqv, PyData.eqvAll]
  rw [e]
  by_cases z : k = "near"
  · rw [z, decide_eq_true rfl]; decide
  · rw [decide_eq_false z]; exact beq_false_of_ne z
theorem eq3 (k : Str) (s t : Int) : PyData.eqv (.tuple [.str k, .int s, .int t]) (.tuple [.str "near"]) = false := by
  simp [PyData.eqv, PyData.eqvAll]
/-! ### the promises -/
def spIsNumber : Sp := fun vs H Q _ => ∃ n : Int, vs = [.int n] ∧ Q (.bl true) H
def spIsRule (K : PySem.W.Frag) : Sp := fun vs H Q _ => ∃ (n : Int) (a : Addr) (xs : List V), vs = [.int n, .ref a] ∧ H a = some (.tup xs) ∧ RulF xs ∧ ∀ H', Same H H' → Q (.bl (RulB n xs)) H'
def spCheckRule (K : PySem.W.Frag) (CW CR : Addr) : Sp := fun vs H Q E => ∃ (n : Int) (a : Addr) (xs : List V), vs = [.int n, .ref a] ∧ Sm n ∧ H a = some (.tup xs) ∧ RulF xs ∧
  (¬ Wh n → ∀ H', Same H H' → E (.ref CW) none H') ∧ (Wh n → RulB n xs = false → ∀ H', Same H H' → E (.ref CR) none H') ∧ (Wh n → RulB n xs = true → ∀ H', Same H H' → Q .non H')
def spCheckShown (K : PySem.W.Frag) (CS : Addr) : Sp := fun vs H Q E => ∃ (n : Int) (a : Addr) (r : Rul) (v : V) (s : Int × Int), vs = [.int n, .ref a, v] ∧ Sm n ∧ H a = some (.tup (rulT r)) ∧ RulOk n r ∧ SeenAt K H r v s ∧ Sm s.1 ∧ Sm s.2 ∧
  (¬ ShOk n r s → E (.ref CS) none H) ∧ (ShOk n r s → Q .non H)
/-- what is handed a wheel and a rule first -/
def RulIn (K : PySem.W.Frag) (CW CR : Addr) (n : Int) (a : Addr) (H : Hp) (E : XK) (k : Rul → Prop) : Prop := ∃ xs : List V, Sm n ∧ H a = some (.tup xs) ∧ RulF xs ∧
  (¬ Wh n → ∀ H', Same H H' → E (.ref CW) none H') ∧ (Wh n → RulB n xs = false → ∀ H', Same H H' → E (.ref CR) none H') ∧ (∀ r, Wh n → RulOk n r → xs = rulT r → k r)
theorem RulIn.ok {K : PySem.W.Frag} {CW CR : Addr} {n : Int} {a : Addr} {H : Hp} {E : XK} {k : Rul → Prop} {r : Rul} (h1 : Wh n) (h2 : RulOk n r) (h3 : H a = some (.tup (rulT r))) (h : k r) : RulIn K CW CR n a H E k :=
  ⟨rulT r, ⟨by have := h1.1; omega, by have := h1.2; omega⟩, h3, rulT_F r, fun z => absurd h1 z, fun _ z => absurd (rul_B h2) (by rw [z]; decide), fun s _ _ e => by rw [← rulT_inj e]; exact h⟩
def spBound (K : PySem.W.Frag) (CW CR : Addr) : Sp := fun vs H Q E => ∃ (n : Int) (a : Addr), vs = [.int n, .ref a] ∧ RulIn K CW CR n a H E fun r =>
  ∀ H' p, Same H H' → H p = none → H' p = some (.tup [.int (bd n r).1, .int (bd n r).2]) → Q (.ref p) H'
def spShown (K : PySem.W.Frag) (CW CR : Addr) : Sp := fun vs H Q E => ∃ (n : Int) (a : Addr) (t : Int), vs = [.int n, .ref a, .int t] ∧ RulIn K CW CR n a H E fun r =>
  ∀ H' v, Same H H' → SeenAt K H' r v (shS n r t) → Q v H'
def spLeast : Sp := fun vs H Q _ => ∃ n lo d : Int, vs = [.int n, .int lo, .int d] ∧ 0 < n ∧ Q (.int (lo + (d - lo) % n)) H
def spGapAbout (CN : Addr) : Sp := fun vs H Q E => ∃ n f d c : Int, vs = [.int n, .int f, .int d, .int c] ∧ 0 < n ∧ Sm c ∧ Sm d ∧
  (c - f + (d - (c - f)) % n ≤ c + f → Q (.int (c - f + (d - (c - f)) % n)) H) ∧ (c + f < c - f + (d - (c - f)) % n → E (.ref CN) none H)
/-- the greatest common divisor, and how many turns -/
def spCommon : Sp := fun vs H Q _ => ∃ n o : Int, vs = [.int n, .int o] ∧ Wh n ∧ Wh o ∧ ∀ (t : Int) (H' : Hp) (p : Addr), o ∣ (Int.gcd n o : Int) - t * n → Same H H' → H' p = some (.tup [.int (Int.gcd n o : Int), .int t]) → Q (.ref p) H'
def spGapPair (K : PySem.W.Frag) (CN : Addr) : Sp := fun vs H Q E => ∃ (n o : Int) (a b : Addr) (s e : Int × Int), vs = [.int n, .int o, .ref a, .ref b] ∧ Wh n ∧ Wh o ∧ SqT K H a [.int s.1, .int s.2] ∧ SqT K H b [.int e.1, .int e.2] ∧ ShOk n (.pair o) s ∧ ShOk n (.pair o) e ∧
  (∀ g, GapR n (.pair o) (e.1 - s.1, e.2 - s.2) 0 (some g) → ∀ H', Same H H' → Q (.int g) H') ∧ (GapR n (.pair o) (e.1 - s.1, e.2 - s.2) 0 none → ∀ H', Same H H' → E (.ref CN) none H')
def spGap (K : PySem.W.Frag) (CW CR CS CN : Addr) : Sp := fun vs H Q E => ∃ (n : Int) (a : Addr) (v1 v2 ab : V), vs = [.int n, .ref a, v1, v2, ab] ∧ RulIn K CW CR n a H E fun r =>
  ∃ s e : Int × Int, SeenAt K H r v1 s ∧ SeenAt K H r v2 e ∧ Sm s.1 ∧ Sm s.2 ∧ Sm e.1 ∧ Sm e.2 ∧ (¬ ShOk n r s → ∀ H', Same H H' → E (.ref CS) none H') ∧ (ShOk n r s → ¬ ShOk n r e → ∀ H', Same H H' → E (.ref CS) none H') ∧
  (ShOk n r s → ShOk n r e → ∃ c : Int, (∀ f, r = .about f → ab = .int c ∧ Sm c) ∧
    (∀ g, GapR n r (e.1 - s.1, e.2 - s.2) c (some g) → ∀ H', Same H H' → Q (.int g) H') ∧ (GapR n r (e.1 - s.1, e.2 - s.2) c none → ∀ H', Same H H' → E (.ref CN) none H'))
/-- what judged tells -/
def jud (n : Int) (r : Rul) (l m : Int) : List V := if l < (bd n r).1 then [.str "wrong", .int l] else if m ≤ (bd n r).2 then [.str "right"] else [.str "wrong", .int (if (bd n r).2 + 1 > l then (bd n r).2 + 1 else l)]
def spJudged (K : PySem.W.Frag) (CW CR CG : Addr) : Sp := fun vs H Q E => ∃ (n : Int) (a : Addr) (l m : Int), vs = [.int n, .ref a, .int l, .int m] ∧ Sm l ∧ Sm m ∧ RulIn K CW CR n a H E fun r =>
  (m < l → ∀ H', Same H H' → E (.ref CG) none H') ∧ (l ≤ m → ∀ H' p, Same H H' → H p = none → H' p = some (.tup (jud n r l m)) → Q (.ref p) H')
end Lx

namespace Lx
open PySem PySem.Spec PyProof.Rows L2 LamX NdefX
/-! ### where a lambda stands in the text -/
def retV : Stmt → Expr
  | .Return (some v) _ => v
  | _ => .Constant .none 0 ⟨0, 0, 0, 0⟩
def cmpL : Expr → Expr
  | .Compare a _ _ _ => a
  | e => e
/-! ### what the laws' helpers promise of rules -/
def spRule (K : PySem.W.Frag) : Sp := fun vs H Q _ => ∃ (S : Addr) (n : Int), vs = [.ref S, .int n] ∧ Wh n ∧ StAt K S H ∧
  ∀ (a : Addr) (r : Rul) (H' : Hp), RulOk n r → But S H H' → StAt K S H' → H' a = some (.tup (rulT r)) → Q (.ref a) H'
def spLawShown (K : PySem.W.Frag) : Sp := fun vs H Q _ => ∃ (n : Int) (a : Addr) (t : Int) (r : Rul), vs = [.int n, .ref a, .int t] ∧ Wh n ∧ RulOk n r ∧ H a = some (.tup (rulT r)) ∧
  ∀ H' v, Same H H' → SeenAt K H' r v (shS n r t) → Q v H'
def spLawBound (K : PySem.W.Frag) : Sp := fun vs H Q _ => ∃ (n : Int) (a : Addr) (r : Rul), vs = [.int n, .ref a] ∧ Wh n ∧ RulOk n r ∧ H a = some (.tup (rulT r)) ∧
  ∀ H' p, Same H H' → H p = none → H' p = some (.tup [.int (bd n r).1, .int (bd n r).2]) → Q (.ref p) H'
def Nb (v : Int) : Prop := -1000000000000000000000000000 ≤ v ∧ v ≤ 1000000000000000000000000000
def spNear (K : PySem.W.Frag) : Sp := fun vs H Q _ => ∃ (S : Addr) (n : Int) (a : Addr) (r : Rul), vs = [.ref S, .int n, .ref a] ∧ Wh n ∧ RulOk n r ∧ StAt K S H ∧ H a = some (.tup (rulT r)) ∧
  ∀ (v : Int) (H' : Hp), Nb v → But S H H' → StAt K S H' → Q (.int v) H'
def gapV : Option Int → V
  | some g => .int g
  | none => .str "NoGap"
def spIsGap (K : PySem.W.Frag) : Sp := fun vs H Q _ => ∃ (n : Int) (a : Addr) (r : Rul) (fv ab : V) (d : Int × Int) (c : Int) (out : Option Int), vs = [.int n, .ref a, fv, ab, gapV out] ∧ Wh n ∧ RulOk n r ∧ H a = some (.tup (rulT r)) ∧
  SeenAt K H r fv d ∧ (∀ f, r = .about f → ab = .int c) ∧ GapR n r d c out ∧ ∀ H', Same H H' → Q (.bl true) H'
theorem sqT_but {K : PySem.W.Frag} {S : Addr} {H H' : Hp} {p : Addr} {xs : List V} (st : StAt K S H) (b : But S H H') (h : SqT K H p xs) : SqT K H' p xs := by
  rcases h with (h | ⟨o, h⟩) | h
  · exact .inl (.inl (b _ _ (st.ne h fun _ z => by cases z) h))
  · exact .inl (.inr ⟨o, b _ _ (st.ne h fun _ z => by cases z) h⟩)
  · exact .inr h
theorem sqT_ext {K : PySem.W.Frag} {H H' : Hp} {p : Addr} {xs : List V} (x : ExtN H H') (h : SqT K H p xs) : SqT K H' p xs := by
  rcases h with (h | ⟨o, h⟩) | h
  · exact .inl (.inl (x _ _ h (fun _ z => by cases z)))
  · exact .inl (.inr ⟨o, x _ _ h (fun _ z => by cases z)⟩)
  · exact .inr h
theorem SeenAt.but {K : PySem.W.Frag} {S : Addr} {H H' : Hp} {r : Rul} {v : V} {s : Int × Int} (st : StAt K S H) (b : But S H H') (h : SeenAt K H r v s) : SeenAt K H' r v s := by
  cases r with
  | pair o => obtain ⟨p, e1, e2⟩ := h; exact ⟨p, e1, sqT_but st b e2⟩
  | up _ => exact h
  | near => exact h
  | about _ => exact h
theorem SeenAt.ext {K : PySem.W.Frag} {H H' : Hp} {r : Rul} {v : V} {s : Int × Int} (x : ExtN H H') (h : SeenAt K H r v s) : SeenAt K H' r v s := by
  cases r with
  | pair o => obtain ⟨p, e1, e2⟩ := h; exact ⟨p, e1, sqT_ext x e2⟩
  | up _ => exact h
  | near => exact h
  | about _ => exact h
theorem rule_but {K : PySem.W.Frag} {S a : Addr} {H H' : Hp} {xs : List V} (st : StAt K S H) (b : But S H H') (h : H a = some (.tup xs)) : H' a = some (.tup xs) := b _ _ (st.ne h fun _ z => by cases z) h
theorem rule_ext {a : Addr} {H H' : Hp} {xs : List V} (x : ExtN H H') (h : H a = some (.tup xs)) : H' a = some (.tup xs) := x _ _ h (fun _ z => by cases z)
/-! ### the mathematics -/
/-- the rests alone count -/
theorem gapR_of {n c : Int} {r : Rul} {d d' : Int × Int} (hr : ∀ o, r ≠ .pair o) (h : n ∣ d.1 - d'.1) : ∀ out, GapR n r d c out → GapR n r d' c out := by
  have f : ∀ g, Fits n r d g ↔ Fits n r d' g := by
    intro g
    have k : (n ∣ g - d.1) ↔ (n ∣ g - d'.1) := by
      constructor
      · intro z; have := Int.dvd_add z h; rwa [show g - d.1 + (d.1 - d'.1) = g - d'.1 by omega] at this
      · intro z; have := Int.dvd_sub z h; rwa [show g - d'.1 - (d.1 - d'.1) = g - d.1 by omega] at this
    cases r with
    | pair o => exact absurd rfl (hr o)
    | up l => exact k
    | near => exact k
    | about fo => exact k
  intro out z
  cases out with
  | some g => exact ⟨z.1, z.2.1, (f g).mp z.2.2⟩
  | none => exact fun g h1 h2 h3 => z g h1 h2 ((f g).mpr h3)
theorem sh_far {n t f : Int} : n ∣ (t + f) % n - t % n - f := by
  have h1 := Int.mul_ediv_add_emod (t + f) n
  have h2 := Int.mul_ediv_add_emod t n
  refine ⟨t / n - (t + f) / n, ?_⟩
  rw [Int.mul_sub]; omega

theorem bezout_nat : ∀ (m a b : Nat), b ≤ m → ∃ s t : Int, ((Nat.gcd a b : Nat) : Int) = s * a + t * b
  | 0, a, b, h => by
    obtain rfl : b = 0 := by omega
    exact ⟨1, 0, by simp⟩
  | m + 1, a, b, h => by
    by_cases z : b = 0
    · subst z; exact ⟨1, 0, by simp⟩
    · have lt : a % b < b := Nat.mod_lt _ (by omega)
      obtain ⟨s, t, e⟩ := bezout_nat m b (a % b) (by omega)
      refine ⟨t, s - t * ((a / b : Nat) : Int), ?_⟩
      rw [Nat.gcd_comm, Nat.gcd_rec, Nat.gcd_comm, e]
      have h2 := Nat.div_add_mod a b
      have h3 : ((a % b : Nat) : Int) = (a : Int) - (b : Int) * ((a / b : Nat) : Int) := by
        have : ((b * (a / b) + a % b : Nat) : Int) = (a : Int) := by rw [h2]
        rw [Int.natCast_add, Int.natCast_mul] at this
        omega
      rw [h3, Int.mul_sub, Int.sub_mul, Int.mul_assoc t, Int.mul_comm ((a / b : Nat) : Int)]
      omega
theorem bezout {n o : Int} (hn : 0 < n) (ho : 0 < o) : ∃ t, o ∣ (Int.gcd n o : Int) - t * n := by
  obtain ⟨s, t, e⟩ := bezout_nat o.natAbs n.natAbs o.natAbs (Nat.le_refl _)
  rw [Int.natAbs_of_nonneg (Int.le_of_lt hn), Int.natAbs_of_nonneg (Int.le_of_lt ho)] at e
  refine ⟨s, t, ?_⟩
  have : (Int.gcd n o : Int) = s * n + t * o := e
  rw [this, Int.mul_comm o t]
  omega
/-- a pair's gap is told just where the divisor allows it -/
theorem pair_some {n o c : Int} {d : Int × Int} (hn : Wh n) (ho : Wh o) {g : Int} (h : GapR n (.pair o) d c (some g)) : (d.2 - d.1) % (Int.gcd n o : Int) = 0 := by
  obtain ⟨_, _, h1, h2⟩ := h
  refine Int.emod_eq_zero_of_dvd ?_
  have h3 := Int.dvd_sub (Int.dvd_trans (Int.gcd_dvd_left n o) h1) (Int.dvd_trans (Int.gcd_dvd_right n o) h2)
  rwa [show g - d.1 - (g - d.2) = d.2 - d.1 by omega] at h3
theorem pair_none {n o c : Int} {d : Int × Int} (hn : Wh n) (ho : Wh o) (h : GapR n (.pair o) d c none) : (d.2 - d.1) % (Int.gcd n o : Int) ≠ 0 := by
  intro z
  have np : 0 < n := by have := hn.1; omega
  have op : 0 < o := by have := ho.1; omega
  obtain ⟨t, ht⟩ := bezout np op
  have gn := Int.gcd_dvd_left n o
  have e : (d.2 - d.1 % n) % (Int.gcd n o : Int) = 0 := by
    refine Int.emod_eq_zero_of_dvd ?_
    have h3 : n ∣ d.1 - d.1 % n := by
      have := Int.mul_ediv_add_emod d.1 n
      exact ⟨d.1 / n, by omega⟩
    have h4 := Int.dvd_add (Int.dvd_of_emod_eq_zero z) (Int.dvd_trans gn h3)
    rwa [show d.2 - d.1 + (d.1 - d.1 % n) = d.2 - d.1 % n by omega] at h4
  have k := gap_pair (c := c) (d := d) np op rfl ht e rfl
  exact h _ k.1 k.2.1 k.2.2
theorem mod_of_dvd {m a b : Int} (h : m ∣ a - b) : a % m = b % m := by
  exact Int.emod_eq_emod_iff_emod_sub_eq_zero.mpr (Int.emod_eq_zero_of_dvd h)
theorem dvd_of_mod {m a b : Int} (h : a % m = b % m) : m ∣ a - b := Int.dvd_of_emod_eq_zero (Int.emod_eq_emod_iff_emod_sub_eq_zero.mp h)
/-- the least one, with d itself -/
theorem least_from2 {n lo d : Int} (hn : 0 < n) : n ∣ lo + (d - lo) % n - d ∧ lo ≤ lo + (d - lo) % n ∧ lo + (d - lo) % n < lo + n := by
  have h := least_from (n := n) (lo := lo) (d := d) hn
  rwa [show (d % n - lo) % n = (d - lo) % n from Int.emod_sub_emod d n lo] at h
theorem some_lo {n c g lo : Int} {r : Rul} {d : Int × Int} (hn : Wh n) (ok : RulOk n r) (hr : ∀ o, r ≠ .pair o) (e : lo = (gd n r c).1) (h : GapR n r d c (some g)) : g = lo + (d.1 - lo) % n := by
  obtain ⟨h1, h2, h3⟩ := h
  have np : 0 < n := by have := hn.1; omega
  obtain ⟨k1, k2, k3⟩ := least_from2 (n := n) (lo := lo) (d := d.1) np
  have w := gd_wide (c := c) hn ok
  have f3 : n ∣ g - d.1 := by
    cases r with
    | pair o => exact absurd rfl (hr o)
    | up l => exact h3
    | near => exact h3
    | about f => exact h3
  have w2 : (gd n r c).2 - (gd n r c).1 < n := by
    cases r with
    | pair o => exact absurd rfl (hr o)
    | up l => exact w
    | near => exact w
    | about f => exact w
  have := dvd_small (dvd_sub3 f3 k1) (by omega) (by omega)
  omega
theorem none_no {n c : Int} {r : Rul} {d : Int × Int} (hn : Wh n) (hr : (∀ o, r ≠ .pair o) ∧ (∀ f, r ≠ .about f)) (h : GapR n r d c none) : False := by
  have k := gap_up (c := c) (d := d) hn hr rfl
  exact h _ k.1 k.2.1 k.2.2
theorem about_some {n c f g : Int} {d : Int × Int} (hn : Wh n) (ok : RulOk n (.about f)) (h : GapR n (.about f) d c (some g)) : (d.1 - (c - f)) % n ≤ c + f - (c - f) := by
  have e := some_lo hn ok (fun _ z => nomatch z) rfl h
  have h2 : g ≤ c + f := h.2.1
  have e : g = c - f + (d.1 - (c - f)) % n := e
  omega
theorem about_none {n c f : Int} {d : Int × Int} (hn : Wh n) (h : GapR n (.about f) d c none) : c + f - (c - f) < (d.1 - (c - f)) % n := by
  rcases Int.lt_or_le (c + f - (c - f)) ((d.1 - (c - f)) % n) with z | z
  · exact z
  · have np : 0 < n := by have := hn.1; omega
    obtain ⟨k1, k2, k3⟩ := least_from2 (n := n) (lo := c - f) (d := d.1) np
    exact absurd k1 (h _ (show c - f ≤ _ from k2) (show _ ≤ c + f by omega))
/-- told right just within the bounds -/
theorem told_right {n c fa g : Int} {r : Rul} {d : Int × Int} (hn : Wh n) (ok : RulOk n r) (h : GapR n r d c (some g)) (hf : Fits n r d fa) : g = fa ↔ (gd n r c).1 ≤ fa ∧ fa ≤ (gd n r c).2 :=
  ⟨fun z => by subst z; exact ⟨h.1, h.2.1⟩, fun z => gap_one hn ok h.1 h.2.1 h.2.2 z.1 z.2 hf⟩
theorem told_none {n c fa : Int} {r : Rul} {d : Int × Int} (h : GapR n r d c none) (hf : Fits n r d fa) : ¬ ((gd n r c).1 ≤ fa ∧ fa ≤ (gd n r c).2) := fun z => h fa z.1 z.2 hf
/-- refused of about alone -/
theorem none_about {n c fa : Int} {r : Rul} {d : Int × Int} (hn : Wh n) (ok : RulOk n r) (h : GapR n r d c none) (hf : Fits n r d fa) : ∃ f, r = .about f := by
  cases r with
  | about f => exact ⟨f, rfl⟩
  | up l => exact (none_no (r := .up l) hn ⟨fun _ z => (nomatch z), fun _ z => (nomatch z)⟩ h).elim
  | near => exact (none_no (r := .near) hn ⟨fun _ z => (nomatch z), fun _ z => (nomatch z)⟩ h).elim
  | pair o =>
    refine absurd (Int.emod_eq_zero_of_dvd ?_) (pair_none hn ok h)
    have h3 := Int.dvd_sub (Int.dvd_trans (Int.gcd_dvd_left n o) hf.1) (Int.dvd_trans (Int.gcd_dvd_right n o) hf.2)
    rwa [show fa - d.1 - (fa - d.2) = d.2 - d.1 by omega] at h3
theorem sh_far' {n t f : Int} : n ∣ f - ((t + f) % n - t % n) := by
  have h := Int.dvd_neg.mpr (sh_far (n := n) (t := t) (f := f))
  rwa [show -((t + f) % n - t % n - f) = f - ((t + f) % n - t % n) by omega] at h
/-- what is shown of two times has the rests -/
theorem sh_fits {n t f : Int} {r : Rul} : Fits n r ((shS n r (t + f)).1 - (shS n r t).1, (shS n r (t + f)).2 - (shS n r t).2) f := by
  cases r with
  | up l => exact sh_far'
  | near => exact sh_far'
  | about o => exact sh_far'
  | pair o => exact ⟨sh_far', sh_far'⟩
theorem shok_sm {n : Int} {r : Rul} {s : Int} (hn : Wh n) (ok : RulOk n r) : Sm (shS n r s).1 ∧ Sm (shS n r s).2 := by
  have h := sh_ok (t := s) hn ok
  obtain ⟨n1, n2⟩ := id hn
  cases r with
  | pair o =>
    obtain ⟨o1, o2⟩ : Wh o := ok
    obtain ⟨⟨a0, a1⟩, ⟨a2, a3⟩⟩ := h
    exact ⟨⟨by omega, by omega⟩, ⟨by omega, by omega⟩⟩
  | up l => obtain ⟨a0, a1⟩ := h; exact ⟨⟨by omega, by omega⟩, ⟨by show _ < (0 : Int); decide, by show (0 : Int) < _; decide⟩⟩
  | near => obtain ⟨a0, a1⟩ := h; exact ⟨⟨by omega, by omega⟩, ⟨by show _ < (0 : Int); decide, by show (0 : Int) < _; decide⟩⟩
  | about f => obtain ⟨a0, a1⟩ := h; exact ⟨⟨by omega, by omega⟩, ⟨by show _ < (0 : Int); decide, by show (0 : Int) < _; decide⟩⟩
theorem lcm_le {n o : Int} (hn : Wh n) (ho : Wh o) : 0 < lcmI n o ∧ lcmI n o ≤ 1000000000000000000000000 := by
  have np : 0 < n := by have := hn.1; omega
  have op : 0 < o := by have := ho.1; omega
  refine ⟨lcm_pos np op, ?_⟩
  have h := lcm_gcd np op
  have g1 := gcd_pos (b := o) np
  have h2 : 1 * lcmI n o ≤ (Int.gcd n o : Int) * lcmI n o := Int.mul_le_mul_of_nonneg_right (by omega) (Int.le_of_lt (lcm_pos np op))
  have h3 : n * o ≤ 1000000000000 * o := Int.mul_le_mul_of_nonneg_right hn.2 (Int.le_of_lt op)
  have h4 := ho.2
  omega
theorem bd_sm {n : Int} {r : Rul} (hn : Wh n) (ok : RulOk n r) : -1000000000000 ≤ (bd n r).1 ∧ (bd n r).1 ≤ (bd n r).2 ∧ (bd n r).2 ≤ 1000000000000000000000000 := by
  obtain ⟨h1, h2⟩ := id hn
  cases r with
  | up l =>
    obtain ⟨h3, h4⟩ : 0 ≤ l ∧ l ≤ 1000000000000 := ok
    refine ⟨?_, ?_, ?_⟩ <;> simp only [bd] <;> omega
  | near => refine ⟨?_, ?_, ?_⟩ <;> simp only [bd] <;> omega
  | pair o =>
    have := lcm_le hn ok
    refine ⟨?_, ?_, ?_⟩ <;> simp only [bd] <;> omega
  | about f =>
    obtain ⟨h3, h4⟩ : 0 ≤ f ∧ 2 * f < n := ok
    refine ⟨?_, ?_, ?_⟩ <;> simp only [bd] <;> omega
theorem mul_div_lcm {n o : Int} (hn : 0 < n) (ho : 0 < o) : n * o / (Int.gcd n o : Int) = lcmI n o ∧ n * o / lcmI n o = (Int.gcd n o : Int) := by
  have h := lcm_gcd hn ho
  have g1 := gcd_pos (b := o) hn
  have l1 := lcm_pos hn ho
  exact ⟨by rw [h]; exact Int.mul_ediv_cancel_left _ (by omega), by rw [h]; exact Int.mul_ediv_cancel _ (by omega)⟩
end Lx

namespace Lx
open PySem PySem.Spec PyProof.Rows L2 LamX NdefX
/-! ### lists of numbers, compared -/
theorem lay_ints : ∀ ns : List Int, PyData.canLayAll0 (ns.map PyData.int) = true
  | [] => by simp [PyData.canLayAll0]
  | n :: r => by simp [PyData.canLayAll0, PyData.canLay0]; exact lay_ints r
theorem depth_ints : ∀ ns : List Int, PyData.depthAll (ns.map PyData.int) = 0
  | [] => by simp [PyData.depthAll]
  | n :: r => by simp [PyData.depthAll, PyData.depth]; exact depth_ints r
theorem shaped_ints (ns : List Int) : SeqAt.shaped (.list (ns.map PyData.int)) = true := by
  simp [SeqAt.shaped, PyData.canLay0, PyData.depth, lay_ints, depth_ints]
theorem eqv_ints : ∀ ns : List Int, PyData.eqvAll (ns.map PyData.int) (ns.map PyData.int) = true
  | [] => by simp [PyData.eqvAll]
  | n :: r => by simp [PyData.eqvAll, PyData.eqv]; exact eqv_ints r
theorem eqv_list (ns : List Int) : PyData.eqv (.list (ns.map PyData.int)) (.list (ns.map PyData.int)) = true := by
  simp [PyData.eqv]; exact eqv_ints ns
theorem dpAll_ints {K : PySem.W.Frag} {H : Hp} : ∀ ns : List Int, DpAll K H (ns.map V.int) (ns.map PyData.int)
  | [] => .nil
  | n :: r => .cons (.int n) (dpAll_ints r)
/-- xs != ys of two lists of the same numbers -/
theorem ne_ints {K : PySem.W.Frag} {H : Hp} {a b : Addr} {ns : List Int} {Q : VK} (ha : SqL K H a (ns.map V.int)) (hb : SqL K H b (ns.map V.int)) (q : Q (.bl false) H) : rNeD K (.ref a) (.ref b) H Q := by
  refine ⟨_, _, .lst ha (dpAll_ints ns), .lst hb (dpAll_ints ns), shaped_ints ns, shaped_ints ns, ?_⟩
  rw [eqv_list]
  exact q
/-- the first place at which f -/
def firstP (f : Nat → Bool) : Nat → Option Nat
  | 0 => none
  | i + 1 => match firstP f i with
    | some p => some p
    | none => if f i = true then some i else none
theorem firstP_lt {f : Nat → Bool} : ∀ {i p : Nat}, firstP f i = some p → p < i ∧ f p = true
  | 0, _, h => nomatch h
  | i + 1, p, h => by
    unfold firstP at h
    cases e : firstP f i with
    | some q =>
      rw [e] at h
      have h := Option.some.inj h
      subst h
      have := firstP_lt e
      exact ⟨by omega, this.2⟩
    | none =>
      rw [e] at h
      simp only at h
      split at h
      · rename_i y
        have h := Option.some.inj h
        subst h
        exact ⟨by omega, y⟩
      · cases h
theorem firstP_of {f : Nat → Bool} : ∀ {i p : Nat}, p < i → f p = true → (∀ q, q < p → f q = false) → firstP f i = some p
  | 0, _, h, _, _ => absurd h (by omega)
  | i + 1, p, h, y, no => by
    unfold firstP
    by_cases z : p = i
    · subst z
      have e : firstP f p = none := by
        cases e : firstP f p with
        | none => rfl
        | some q =>
          have h := firstP_lt e
          rw [no q h.1] at h
          cases h.2
      rw [e, if_pos y]
    · rw [firstP_of (by omega) y no]
theorem firstP_no {f : Nat → Bool} : ∀ {i : Nat}, (∀ q, q < i → f q = false) → firstP f i = none
  | 0, _ => rfl
  | i + 1, no => by
    unfold firstP
    rw [firstP_no (i := i) fun q h => no q (by omega), if_neg (by rw [no i (by omega)]; decide)]
/-! ### rings -/
def isAh (n a b : Int) : Bool := decide (0 < (b - a) % n ∧ (b - a) % n < (n + 1) / 2)
def spIsAhead : Sp := fun vs H Q _ => ∃ n a b : Int, vs = [.int n, .int a, .int b] ∧ Wh n ∧ Q (.bl (isAh n a b)) H
/-- the three at a place are a ring -/
def Rg (n : Int) (ns : List Int) (p : Nat) : Bool :=
  isAh n (ns.getD (p / (ns.length * ns.length)) 0) (ns.getD (p / ns.length % ns.length) 0) && isAh n (ns.getD (p / ns.length % ns.length) 0) (ns.getD (p % ns.length) 0) && isAh n (ns.getD (p % ns.length) 0) (ns.getD (p / (ns.length * ns.length)) 0)
def threeV (m p : Nat) : List V := [.int ((p / (m * m) : Nat) : Int), .int ((p / m % m : Nat) : Int), .int ((p % m : Nat) : Int)]
def spRing (K : PySem.W.Frag) (CW CS : Addr) : Sp := fun vs H Q E => ∃ (n : Int) (a : Addr) (ns : List Int), vs = [.int n, .ref a] ∧ SqL K H a (ns.map V.int) ∧ Sm n ∧ ns.length ≤ 1000 ∧ (∀ x ∈ ns, Sm x) ∧
  (¬ Wh n → ∀ H', Same H H' → E (.ref CW) none H') ∧ (Wh n → (60 < ns.length ∨ ∃ x ∈ ns, ¬ Sn n x) → ∀ H', Same H H' → E (.ref CS) none H') ∧
  (Wh n → ns.length ≤ 60 → (∀ x ∈ ns, Sn n x) → (firstP (Rg n ns) (ns.length * ns.length * ns.length) = none → ∀ H', Same H H' → Q .non H') ∧
    (∀ p, firstP (Rg n ns) (ns.length * ns.length * ns.length) = some p → ∀ H' t, Same H H' → H t = none → H' t = some (.tup (threeV ns.length p)) → Q (.ref t) H'))
/-- the place found, if one is -/
def DueAt (H : Hp) (m : Nat) (v : V) : Option Nat → Prop
  | none => v = .non
  | some p => ∃ t, v = .ref t ∧ H t = some (.tup (threeV m p))
theorem DueAt.same {H H' : Hp} {m : Nat} {v : V} {o : Option Nat} (s : Same H H') (h : DueAt H m v o) : DueAt H' m v o := by
  cases o with
  | none => exact h
  | some p => obtain ⟨t, e1, e2⟩ := h; exact ⟨t, e1, s _ _ e2⟩
theorem at_ints {ns : List Int} {i : Nat} (h : i < ns.length) : atI (ns.map V.int) (i : Int) = some (.int (ns.getD i 0)) := by
  refine atI_nat ?_
  rw [List.getElem?_map, List.getElem?_eq_getElem h, List.getD_eq_getElem?_getD, List.getElem?_eq_getElem h]
  rfl
theorem three_lt {m i : Nat} (h : i < m * m * m) : i / (m * m) < m ∧ i / m % m < m ∧ i % m < m := by
  have mp : 0 < m := by
    rcases Nat.eq_zero_or_pos m with z | z
    · subst z; exact absurd h (by omega)
    · exact z
  exact ⟨Nat.div_lt_of_lt_mul h, Nat.mod_lt _ mp, Nat.mod_lt _ mp⟩
theorem three_int {m i : Nat} : [V.int ((0 + (i : Int)) / ((m : Int) * (m : Int))), V.int ((0 + (i : Int)) / (m : Int) % (m : Int)), V.int ((0 + (i : Int)) % (m : Int))] = threeV m i := by
  unfold threeV
  rw [Int.zero_add, Int.natCast_ediv, Int.natCast_mul, Int.natCast_emod, Int.natCast_ediv, Int.natCast_emod]
end Lx

namespace Lx
open PySem PySem.Spec PyProof.Rows L2 LamX NdefX
/-! ### timers -/
def Lg (n l : Int) : Prop := 0 ≤ l ∧ l < n
def riseB : Int → List Int → Bool
  | _, [] => true
  | p, x :: r => decide (p ≤ x) && riseB x r
def overB (n l b w : Int) : Bool := decide (l ≤ (w - b) % n)
def placeV : Option Nat → V
  | none => .non
  | some p => .int (p : Int)
def foP (n l : Int) (ns : List Int) : Option Nat := firstP (fun i => decide (l ≤ ns.getD i 0 % n)) ns.length
def spApart (CW CL : Addr) : Sp := fun vs H Q E => ∃ n l : Int, vs = [.int n, .int l] ∧ Sm n ∧ Sm l ∧
  (¬ Wh n → ∀ H', Same H H' → E (.ref CW) none H') ∧ (Wh n → ¬ Lg n l → ∀ H', Same H H' → E (.ref CL) none H') ∧ (Wh n → Lg n l → ∀ H', Same H H' → Q (.int (n - l)) H')
def spOver (CW CL CS : Addr) : Sp := fun vs H Q E => ∃ n l b w : Int, vs = [.int n, .int l, .int b, .int w] ∧ Sm n ∧ Sm l ∧ Sm b ∧ Sm w ∧
  (¬ Wh n → ∀ H', Same H H' → E (.ref CW) none H') ∧ (Wh n → ¬ Lg n l → ∀ H', Same H H' → E (.ref CL) none H') ∧ (Wh n → Lg n l → ¬ Sn n b → ∀ H', Same H H' → E (.ref CS) none H') ∧
  (Wh n → Lg n l → Sn n b → ¬ Sn n w → ∀ H', Same H H' → E (.ref CS) none H') ∧ (Wh n → Lg n l → Sn n b → Sn n w → ∀ H', Same H H' → Q (.bl (overB n l b w)) H')
def spFirstOver (K : PySem.W.Frag) (CW CL CG : Addr) : Sp := fun vs H Q E => ∃ (n l : Int) (a : Addr) (ns : List Int), vs = [.int n, .int l, .ref a] ∧ Sm n ∧ Sm l ∧ SqL K H a (ns.map V.int) ∧ ns.length ≤ 1000 ∧ (∀ x ∈ ns, Sm x) ∧
  (¬ Wh n → ∀ H', Same H H' → E (.ref CW) none H') ∧ (Wh n → ¬ Lg n l → ∀ H', Same H H' → E (.ref CL) none H') ∧ (Wh n → Lg n l → riseB 0 ns = false → ∀ H', Same H H' → E (.ref CG) none H') ∧
  (Wh n → Lg n l → riseB 0 ns = true → ∀ H', Same H H' → Q (placeV (foP n l ns)) H')
/-! ### looks not far apart -/
def Stp (most : Int) : Int → List Int → Prop
  | _, [] => True
  | p, x :: r => p ≤ x ∧ x ≤ p + most ∧ Stp most x r
def lastL : Int → List Int → Int
  | p, [] => p
  | _, x :: r => lastL x r
theorem stp_app {most : Int} : ∀ {ns : List Int} {p x : Int}, Stp most p ns → lastL p ns ≤ x → x ≤ lastL p ns + most → Stp most p (ns ++ [x])
  | [], p, x, _, h1, h2 => ⟨h1, h2, trivial⟩
  | y :: r, p, x, h, h1, h2 => ⟨h.1, h.2.1, stp_app (ns := r) h.2.2 h1 h2⟩
theorem last_app : ∀ {ns : List Int} {p x : Int}, lastL p (ns ++ [x]) = x
  | [], _, _ => rfl
  | y :: r, _, x => last_app (ns := r) (p := y)
def prevL (p : Int) (ns : List Int) : Nat → Int
  | 0 => p
  | k + 1 => ns.getD k 0
theorem stp_at {most : Int} : ∀ {ns : List Int} {p : Int}, Stp most p ns → ∀ k, k < ns.length → p ≤ ns.getD k 0 ∧ prevL p ns k ≤ ns.getD k 0 ∧ ns.getD k 0 ≤ prevL p ns k + most
  | [], _, _, k, h => absurd h (by simp)
  | y :: r, p, h, 0, _ => ⟨h.1, h.1, h.2.1⟩
  | y :: r, p, h, k + 1, hk => by
    have ih := stp_at (ns := r) h.2.2 k (by simpa using hk)
    have e : (y :: r).getD (k + 1) 0 = r.getD k 0 := rfl
    have e2 : prevL p (y :: r) (k + 1) = prevL y r k := by cases k <;> rfl
    rw [e, e2]
    have := h.1
    exact ⟨by omega, ih.2.1, ih.2.2⟩
theorem stp_rise {most : Int} : ∀ {ns : List Int} {p : Int}, Stp most p ns → riseB p ns = true
  | [], _, _ => rfl
  | y :: r, p, h => by
    unfold riseB
    rw [decide_eq_true h.1, stp_rise h.2.2]; rfl
theorem stp_top {most : Int} (hm : 0 ≤ most) : ∀ {ns : List Int} {p : Int}, Stp most p ns → ∀ x ∈ ns, p ≤ x ∧ x ≤ p + most * ns.length
  | [], _, _, x, h => nomatch h
  | y :: r, p, h, x, hx => by
    have e : (((y :: r).length : Nat) : Int) = (r.length : Int) + 1 := by simp
    rw [e, Int.mul_add, Int.mul_one]
    have h1 := h.1
    have h2 := h.2.1
    have h3 : 0 ≤ most * (r.length : Int) := Int.mul_nonneg hm (by omega)
    rcases List.mem_cons.mp hx with rfl | hx
    · exact ⟨h1, by omega⟩
    · have ih := stp_top hm h.2.2 x hx
      exact ⟨by omega, by omega⟩
/-- the rest tells as the look itself, up to the first one that is over -/
theorem over_rest {n l : Int} {ns : List Int} (hn : 0 < n) (hl : Lg n l) (h : Stp (n - l) 0 ns) {k : Nat} (hk : k < ns.length) (before : ∀ j, j < k → ns.getD j 0 < l) : (l ≤ ns.getD k 0 % n ↔ l ≤ ns.getD k 0) := by
  obtain ⟨h1, h2, h3⟩ := stp_at h k hk
  obtain ⟨l0, l1⟩ := hl
  have r0 := Int.emod_nonneg (ns.getD k 0) (show n ≠ 0 by omega)
  by_cases z : l = 0
  · subst z; exact ⟨fun _ => h1, fun _ => r0⟩
  · have p : prevL 0 ns k < l := by
      cases k with
      | zero => show (0 : Int) < l; omega
      | succ k => exact before k (by omega)
    rw [Int.emod_eq_of_lt h1 (by omega)]
theorem firstP_congr {f g : Nat → Bool} : ∀ {i : Nat}, (∀ k, k < i → (∀ j, j < k → g j = false) → f k = g k) → firstP f i = firstP g i
  | 0, _ => rfl
  | i + 1, h => by
    have ih : firstP f i = firstP g i := firstP_congr fun k hk => h k (by omega)
    unfold firstP
    rw [ih]
    cases e : firstP g i with
    | some p => rfl
    | none =>
      have no : ∀ j, j < i → g j = false := fun j hj => by
        cases eg : g j with
        | false => rfl
        | true =>
          -- the least such place would have been found
          have : ∃ p, firstP g i = some p := by
            clear h ih
            induction i with
            | zero => exact absurd hj (by omega)
            | succ i ih =>
              unfold firstP
              cases e2 : firstP g i with
              | some p => exact ⟨p, rfl⟩
              | none =>
                unfold firstP at e
                rw [e2] at e
                by_cases z : j < i
                · obtain ⟨p, hp⟩ := ih e2 z
                  rw [e2] at hp; cases hp
                · have : j = i := by omega
                  subst this
                  exact ⟨j, by simp only; rw [if_pos eg]⟩
          obtain ⟨p, hp⟩ := this
          rw [e] at hp; cases hp
      rw [h i (by omega) no]
theorem fo_plain {n l : Int} {ns : List Int} (hn : 0 < n) (hl : Lg n l) (h : Stp (n - l) 0 ns) : foP n l ns = firstP (fun i => decide (l ≤ ns.getD i 0)) ns.length := by
  refine firstP_congr fun k hk no => ?_
  have := over_rest hn hl h hk fun j hj => by
    have := of_decide_eq_false (no j hj)
    omega
  exact decide_eq_decide.mpr this
theorem eqv_nil (ns : List Int) : PyData.eqv (.list (ns.map PyData.int)) (.list []) = decide (ns = []) := by
  cases ns with
  | nil => simp [PyData.eqv, PyData.eqvAll]
  | cons x r => simp [PyData.eqv, PyData.eqvAll]
/-- xs == [] of a list of numbers -/
theorem eq_nil {K : PySem.W.Frag} {H : Hp} {a b : Addr} {ns : List Int} {Q : VK} (ha : SqL K H a (ns.map V.int)) (hb : SqL K H b []) (q : Q (.bl (decide (ns = []))) H) : rEqD K (.ref a) (.ref b) H Q := by
  refine ⟨_, _, .lst ha (dpAll_ints ns), .lst hb .nil, shaped_ints ns, shaped_ints [], ?_⟩
  rw [eqv_nil]
  exact q
def spLooks (K : PySem.W.Frag) : Sp := fun vs H Q _ => ∃ (S : Addr) (most goal : Int), vs = [.ref S, .int most, .int goal] ∧ StAt K S H ∧ 0 < most ∧ most ≤ 1000000000000 ∧
  ∀ (D : Addr) (ns : List Int) (H' : Hp), Stp most 0 ns → ns.length ≤ 61 → But S H H' → StAt K S H' → H D = none → H' D = some (.lst (ns.map V.int)) → Q (.ref D) H'
theorem firstP_none {f : Nat → Bool} : ∀ {i : Nat}, firstP f i = none → ∀ j, j < i → f j = false
  | 0, _, j, h => absurd h (by omega)
  | i + 1, e, j, h => by
    unfold firstP at e
    cases e2 : firstP f i with
    | some p => rw [e2] at e; cases e
    | none =>
      rw [e2] at e
      simp only at e
      split at e
      · cases e
      · rename_i z
        by_cases y : j < i
        · exact firstP_none e2 j y
        · have : j = i := by omega
          subst this
          cases w : f j with
          | false => rfl
          | true => exact absurd w z
theorem firstP_min {f : Nat → Bool} : ∀ {i p : Nat}, firstP f i = some p → ∀ j, j < p → f j = false
  | 0, _, e, _, _ => nomatch e
  | i + 1, p, e, j, h => by
    unfold firstP at e
    cases e2 : firstP f i with
    | some q =>
      rw [e2] at e
      have e := Option.some.inj e
      subst e
      exact firstP_min e2 j h
    | none =>
      rw [e2] at e
      simp only at e
      split at e
      · have e := Option.some.inj e
        subst e
        exact firstP_none e2 j h
      · cases e
theorem stp_app2 {most : Int} {ns : List Int} {x y : Int} (h : Stp most 0 ns) (h1 : lastL 0 ns ≤ x) (h2 : x ≤ lastL 0 ns + most) (h3 : x ≤ y) (h4 : y ≤ x + most) : Stp most 0 (ns ++ [x, y]) := by
  have e : ns ++ [x, y] = (ns ++ [x]) ++ [y] := by simp
  rw [e]
  exact stp_app (stp_app h h1 h2) (by rw [last_app]; exact h3) (by rw [last_app]; exact h4)
/-- no look is over -/
theorem fo_none {n l : Int} {ns : List Int} (h : ∀ x ∈ ns, x % n < l) : foP n l ns = none := by
  refine firstP_no fun q hq => decide_eq_false fun z => ?_
  have hm : ns.getD q 0 ∈ ns := by
    rw [List.getD_eq_getElem?_getD, List.getElem?_eq_getElem hq]
    exact List.getElem_mem hq
  have := h _ hm
  omega
/-- a list of places, whose first one is told -/
def HeadAt : Option Nat → List V → Prop
  | none, acc => acc = []
  | some p, acc => ∃ r, acc = .int (p : Int) :: r
theorem head_no {f : Nat → Bool} {i : Nat} {acc : List V} (h : HeadAt (firstP f i) acc) (e : f i = false) : HeadAt (firstP f (i + 1)) acc := by
  unfold firstP
  cases ef : firstP f i with
  | some p => rw [ef] at h; exact h
  | none => rw [ef] at h; simp only; rw [e]; exact h
theorem head_yes {f : Nat → Bool} {i : Nat} {acc : List V} (h : HeadAt (firstP f i) acc) (e : f i = true) : HeadAt (firstP f (i + 1)) (acc ++ [.int (i : Int)]) := by
  unfold firstP
  cases ef : firstP f i with
  | some p => rw [ef] at h; obtain ⟨r, rfl⟩ := h; exact ⟨r ++ [.int (i : Int)], rfl⟩
  | none => rw [ef] at h; simp only; rw [e]; obtain rfl : acc = [] := h; exact ⟨[], rfl⟩
/-- the first of xs + [v] -/
theorem head_at {o : Option Nat} {acc : List V} {v : V} (h : HeadAt o acc) : atI (acc ++ [v]) 0 = some (match o with | none => v | some p => .int (p : Int)) := by
  cases o with
  | none => obtain rfl : acc = [] := h; rfl
  | some p => obtain ⟨r, rfl⟩ := h; exact atI_nat (j := 0) rfl
theorem head_atP {o : Option Nat} {acc : List V} (h : HeadAt o acc) : atI (acc ++ [.non]) 0 = some (placeV o) := by
  have := head_at (v := .non) h
  cases o <;> exact this
theorem placeV_flat (o : Option Nat) : flatV (placeV o) = true := by cases o <;> rfl
end Lx

namespace Lx
open PySem PySem.Spec PyProof.Rows L2 LamX NdefX
theorem last_init : ∀ (ns : List Int) (p : Int), ∃ xs : List V, V.int p :: ns.map V.int = xs ++ [V.int (lastL p ns)]
  | [], p => ⟨[], rfl⟩
  | y :: r, p => by
    obtain ⟨xs, e⟩ := last_init r y
    exact ⟨V.int p :: xs, by rw [List.map_cons, e]; rfl⟩
theorem at_lastL (ns : List Int) (p : Int) : atI (V.int p :: ns.map V.int) (-1) = some (.int (lastL p ns)) := by
  obtain ⟨xs, e⟩ := last_init ns p
  rw [e]
  exact atI_last xs _
theorem rise_app : ∀ (ns : List Int) (p x : Int), riseB p (ns ++ [x]) = (riseB p ns && decide (lastL p ns ≤ x))
  | [], p, x => by
    show (decide (p ≤ x) && true) = (true && decide (p ≤ x))
    rw [Bool.and_true, Bool.true_and]
  | y :: r, p, x => by
    show (decide (p ≤ y) && riseB y (r ++ [x])) = (decide (p ≤ y) && riseB y r && decide (lastL y r ≤ x))
    rw [rise_app r y x, Bool.and_assoc]
theorem rise_last : ∀ (ns : List Int) (p : Int), riseB p ns = true → p ≤ lastL p ns
  | [], p, _ => Int.le_refl p
  | y :: r, p, h => by
    have h : (decide (p ≤ y) && riseB y r) = true := h
    rw [Bool.and_eq_true] at h
    have h1 : p ≤ y := of_decide_eq_true h.1
    have := rise_last r y h.2
    show p ≤ lastL y r
    omega
/-- a number below nought behind them: they fall -/
theorem rise_neg (ns : List Int) (x : Int) (h : x < 0) : riseB 0 (ns ++ [x]) = false := by
  rw [rise_app]
  cases e : riseB 0 ns with
  | false => rfl
  | true =>
    have := rise_last ns 0 e
    rw [decide_eq_false (by omega)]
    rfl
theorem LmAt.but {K : PySem.W.Frag} {S : Addr} {H H' : Hp} {f : Addr} {F : NF} {eb : Expr} (l : LmAt H f F eb) (b : But S H H') (st : StAt K S H) : LmAt H' f F eb :=
  ⟨b _ _ (st.ne l.1 fun _ z => by unfold LmO at z; cases z) l.1, b _ _ (st.ne l.2 fun _ z => by unfold CodeO at z; cases z) l.2⟩
theorem mod_div {x n : Int} : x - x / n * n = x % n := by
  rw [Int.emod_def, Int.mul_comm]
theorem over_turn {n b w : Int} : (w + n - b) % n = (w - b) % n := by
  rw [show w + n - b = w - b + n by omega, Int.add_emod_right]
/-- as StAt.lay, of the script's name alone -/
theorem StAt.lay2 {K : PySem.W.Frag} {S D : Addr} {G H : Hp} {o : HO} (g : StAt K S G) (n : G D = none) (b : ∀ a, Scr G S a → Scr H S a) (s : StAt K S H) (nS : D ≠ S) : StAt K S (upd H D o) := by
  obtain ⟨a, ns, i, m, r, e, q, _⟩ := g
  obtain ⟨a', ns', i', m', r', e', q', rest⟩ := s
  obtain ⟨zs, k⟩ := b a ⟨_, e⟩
  rw [e'] at k
  have ea : a' = a := V.ref.inj (List.cons.inj (HO.lst.inj (Option.some.inj k))).1
  subst ea
  have eS : upd H D o S = some (.lst [.ref a', .int i', .int m', .int r']) := (upd_ne (Ne.symm nS)).trans e'
  have go : a' ≠ D → StAt K S (upd H D o) := fun nD => by
    refine ⟨a', ns', i', m', r', eS, ?_, rest⟩
    rcases q' with (q' | ⟨o', q'⟩) | q'
    · exact .inl (.inl ((upd_ne nD).trans q'))
    · exact .inl (.inr ⟨o', (upd_ne nD).trans q'⟩)
    · exact .inr q'
  rcases q with (q | ⟨o, q⟩) | q
  · exact go (ne_of_none q n)
  · exact go (ne_of_none q n)
  · exact ⟨a', ns, i', m', r', eS, .inr q, rest⟩
theorem scr_ext {S a : Addr} {H H' : Hp} (x : ExtN H H') (h : Scr H S a) : Scr H' S a := by
  obtain ⟨zs, h⟩ := h
  exact ⟨zs, lst_ext x h⟩
theorem scr_put {S a p : Addr} {H : Hp} {o : HO} (n : p ≠ S) (h : Scr H S a) : Scr (upd H p o) S a := by
  obtain ⟨zs, h⟩ := h
  exact ⟨zs, (upd_ne (Ne.symm n)).trans h⟩
end Lx

namespace Lx
open PySem PySem.Spec PyProof.Rows L2 LamX NdefX
/-! ### range objects as values -/
theorem cr_range1 {X : Cx} : CallR X (.type "range") (fun vs H Q => ∃ j, vs = [V.int j] ∧ ∀ p, H p = none → Q (.ref p) (upd H p (.rng 0 j))) := by
  intro pins s σ H vs us Q I r h
  obtain ⟨j, rfl, q⟩ := h
  cases r with
  | cons r rr =>
    cases rr
    obtain ⟨t, rfl⟩ := r
    refine call_range_1 ⟨.ref s.heap.objs.size, upd H s.heap.objs.size (.rng 0 j), I.laid (t' := s.toks + 1 + 1) (fun b o e => Heap.get?_push_of_some _ e) (Nat.le_refl _) ?_, rfl, q _ (I.hok.fresh (Nat.le_refl _))⟩
    exact ⟨s.toks, t, s.toks + 1, Heap.get?_push_size _ rfl⟩
def iRngV (te : TE) : TI := fun σ H R => te σ H fun x H1 => ∃ (a : Addr) (lo hi : Int), x = .ref a ∧ H1 a = some (.rng lo hi) ∧ (-(2 ^ 62) ≤ lo ∧ lo < 2 ^ 62 ∧ -(2 ^ 62) ≤ hi ∧ hi < 2 ^ 62) ∧ R (Itr lo (hi - lo).toNat) H1
theorem pi_rngV {X : Cx} {tg l : Expr} {tl : TE} (hl : PE X l tl) : PI X tg l (iRngV tl) := by
  refine ⟨fun pins s σ H R I h => ?_⟩
  refine thn (hl.run pins s σ H _ I h) fun v s1 ⟨x, H1, I1, r1, q1⟩ => ?_
  obtain ⟨a, lo, hi, e, hq, ⟨h1, h2, h3, h4⟩, q⟩ := q1
  subst e
  cases r1
  obtain ⟨t, u, v, ho⟩ := I1.hok a _ hq
  refine wpAny_pyIter_range (t := t) (u := u) (v := v) ho (small_one h1 h2 h3 h4) ?_
  refine ⟨s1.heap.objs.size, [s1.heap.objs.size], _, _, H1, rfl, I1.kept (t' := s1.toks) fun b o e => Heap.get?_push_of_some _ e, turn_range _ lo (hi - lo).toNat, ?_, fun b hb => ?_, q⟩
  · have e1 : lo + ((0 : Nat) : Int) * 1 = lo := by simp
    have e2 : (((hi - lo).toNat : Nat) : Int) - ((0 : Nat) : Int) = Builtin.Range.rangeSize lo hi 1 := by rw [rangeSize_one]; split <;> omega
    show IsRangeIter _ _ (lo + ((0 : Nat) : Int) * 1) ((((hi - lo).toNat : Nat) : Int) - ((0 : Nat) : Int)) 1
    rw [e1, e2]
    exact Heap.get?_push_size _ rfl
  · have e : b = s1.heap.objs.size := by simpa using hb
    subst e
    exact I1.fpOk (Nat.le_refl _) (I1.hok.fresh (Nat.le_refl _))
/-! ### timers: what the program's own helpers promise -/
def spCheckLong (CW CL : Addr) : Sp := fun vs H Q E => ∃ n l : Int, vs = [.int n, .int l] ∧ Sm n ∧ Sm l ∧ (¬ Wh n → E (.ref CW) none H) ∧ (Wh n → ¬ Lg n l → E (.ref CL) none H) ∧ (Wh n → Lg n l → Q .non H)
def spCheckLooks (K : PySem.W.Frag) (CG : Addr) : Sp := fun vs H Q E => ∃ (a : Addr) (ns : List Int), vs = [.ref a] ∧ SqL K H a (ns.map V.int) ∧ (∀ x ∈ ns, Sm x) ∧ (riseB 0 ns = false → E (.ref CG) none H) ∧ (riseB 0 ns = true → Q .non H)
theorem drop_at {ns : List Int} {i : Nat} {z : Int} (h : ns[i]? = some z) : ns.drop i = z :: ns.drop (i + 1) := by
  obtain ⟨hi, e⟩ := List.getElem?_eq_some_iff.mp h
  rw [List.drop_eq_getElem_cons hi, e]
theorem at_map {ns : List Int} {i : Nat} {y : V} (h : (ns.map V.int)[i]? = some y) : ∃ z, y = .int z ∧ ns[i]? = some z ∧ z ∈ ns ∧ ns.getD i 0 = z := by
  rw [List.getElem?_map] at h
  cases e : ns[i]? with
  | none => rw [e] at h; cases h
  | some z =>
    rw [e] at h
    exact ⟨z, (Option.some.inj h).symm, rfl, List.mem_of_getElem? e, by rw [List.getD_eq_getElem?_getD, e]; rfl⟩
/-! ### rows: what the program's own helpers promise -/
def spCheckRow (K : PySem.W.Frag) (CS : Addr) : Sp := fun vs H Q E => ∃ (n : Int) (a : Addr) (ns : List Int), vs = [.int n, .ref a] ∧ SqL K H a (ns.map V.int) ∧ Sm n ∧ ns.length ≤ 1000 ∧ (∀ x ∈ ns, Sm x) ∧
  ((60 < ns.length ∨ ∃ x ∈ ns, ¬ Sn n x) → E (.ref CS) none H) ∧ (ns.length ≤ 60 → (∀ x ∈ ns, Sn n x) → Q .non H)
theorem isAh_ord {n a b : Int} (hn : 2 ≤ n) : isAh n a b = decide (ordW n ((b - a) % n) = "ahead") := by
  have d0 := Int.emod_nonneg (b - a) (show n ≠ 0 by omega)
  unfold isAh ordW
  generalize (b - a) % n = d at d0 ⊢
  by_cases h1 : 2 * d = 0
  · rw [if_pos h1]
    rw [decide_eq_false (by omega : ¬ (0 < d ∧ d < (n + 1) / 2))]
    decide
  rw [if_neg h1]
  by_cases h2 : 2 * d = n
  · rw [if_pos h2]
    rw [decide_eq_false (by omega : ¬ (0 < d ∧ d < (n + 1) / 2))]
    decide
  rw [if_neg h2]
  by_cases h3 : 2 * d < n
  · rw [if_pos h3]
    rw [decide_eq_true (by omega : 0 < d ∧ d < (n + 1) / 2)]
    decide
  · rw [if_neg h3]
    rw [decide_eq_false (by omega : ¬ (0 < d ∧ d < (n + 1) / 2))]
    decide
/-- the row of one: which of the others it is ahead of -/
def ahRow (n : Int) (ns : List Int) (a : Int) : List V := ns.map fun b => .bl (isAh n a b)
theorem ahRow_at {n a : Int} {ns : List Int} {j : Nat} (h : j < ns.length) : atI (ahRow n ns a) (j : Int) = some (.bl (isAh n a (ns.getD j 0))) := by
  refine atI_nat ?_
  unfold ahRow
  rw [List.getElem?_map, List.getElem?_eq_getElem h, List.getD_eq_getElem?_getD, List.getElem?_eq_getElem h]
  rfl
theorem plc_div {m i j k : Nat} (hj : j < m) (hk : k < m) : ((i * m + j) * m + k) / (m * m) = i ∧ ((i * m + j) * m + k) / m % m = j ∧ ((i * m + j) * m + k) % m = k := by
  have mp : 0 < m := by omega
  have e1 : ((i * m + j) * m + k) / m = i * m + j := by
    rw [Nat.mul_comm (i * m + j) m, Nat.mul_add_div mp, Nat.div_eq_of_lt hk, Nat.add_zero]
  refine ⟨?_, ?_, ?_⟩
  · rw [← Nat.div_div_eq_div_mul, e1, Nat.mul_comm i m, Nat.mul_add_div mp, Nat.div_eq_of_lt hj, Nat.add_zero]
  · rw [e1, Nat.mul_comm i m, Nat.mul_add_mod, Nat.mod_eq_of_lt hj]
  · rw [Nat.mul_comm (i * m + j) m, Nat.mul_add_mod, Nat.mod_eq_of_lt hk]
theorem Rg_plc {n : Int} {ns : List Int} {i j k : Nat} (hj : j < ns.length) (hk : k < ns.length) :
    Rg n ns ((i * ns.length + j) * ns.length + k) = (isAh n (ns.getD i 0) (ns.getD j 0) && isAh n (ns.getD j 0) (ns.getD k 0) && isAh n (ns.getD k 0) (ns.getD i 0)) := by
  obtain ⟨e1, e2, e3⟩ := plc_div (i := i) hj hk
  unfold Rg
  rw [e1, e2, e3]
end Lx

namespace Lx
open PySem PySem.Spec PyProof.Rows L2 LamX NdefX
/-! ### a class of the module whose methods are known by their promises -/
structure KnM (P : Program) (w : World) (K : PySem.W.Frag) (mg : Str → Option Value) (base : Heap) (CT : CXT) (k : Nat) (C : Addr) (m : Str) (ps : List Str) (dvs : List V) (sp : Sp) : Prop where
  ex : ∃ (f : Addr) (fd : FuncData) (ds : List Value), FnOk P w K mg base CT k f fd ps sp ∧ Meth K C m f ∧ Binds K fd ps ds ∧ Vals dvs ds
  cl : Cls K C
structure KnI (P : Program) (w : World) (K : PySem.W.Frag) (mg : Str → Option Value) (base : Heap) (CT : CXT) (k : Nat) (C : Addr) (x : Str) (ps : List Str) (sp : Sp) : Prop where
  ex : ∃ (f : Addr) (fd : FuncData), FnOk P w K mg base CT k f fd ps sp ∧ Mk K C f ∧ mg x = some (.ref C) ∧ Binds K fd ps []
def tMethS (C : Addr) (m : Str) (sp : Sp) (dvs : List V) (E : L2.St → XK) (ta : TE) (t : TA) : TE := fun σ H Q => ta σ H fun x H1 => ∃ a dx fs, x = .ref a ∧ H1 a = some (.ins C dx fs) ∧ fs.lookup m = none ∧
  t σ H1 fun vs H2 => sp (x :: (vs ++ dvs)) H2 Q (E σ)
section
variable {X : Cx} {CT : CXT} {k j : Nat} {C : Addr} {x m : Str} {ps : List Str} {dvs : List V} {sp : Sp} {E : L2.St → XK} {E1 : XK} {e o : Expr} {es : List Expr} {ta : TE} {t : TA} {p pos apos : Pos} {pl : Sem Bool}
/-- o.m(e, ..), what is raised told at the slots -/
theorem pe_methS (he : PE X o ta) (D : KnM X.prog X.w X.K X.mg X.base CT j C m ps dvs sp) (hr : Room k X.A) (hj : j ≤ k) (hx : ∀ σ, PassesAt CT X σ (E σ)) (ha : PA X (e :: es) t)
    (hst : starEach (e :: es) X.env = (false, eval e X.env) :: starEach es X.env := by rfl) (hpl : (backTo pos (starEach es X.env)).any (·.1) = false := by rfl)
    (ht : eval (.Call (.Attribute o m apos) (e :: es) [] pos) X.env = (do
      let ov ← eval o X.env
      standAt apos.atName
      let (f, first) ← holding [ov] (getMethod ov m pl)
      callWith pos f first (backTo pos (starEach (e :: es) X.env)) (backToKw pos (keywordEach [] X.env))) := by rfl) :
    PE X (.Call (.Attribute o m apos) (e :: es) [] pos) (tMethS C m sp dvs E ta t) := by
  obtain ⟨f, fd, ds, F, hm, hb, hd⟩ := D.ex
  refine ⟨fun pins s σ H Q I h => ?_⟩
  refine PySem.W.methodCall_KW (pl := pl) (thn (he.run pins s σ H _ I h) fun u s1 ⟨x, H1, I1, rx, a, dx, fs, ex, ea, l, q⟩ => ?_) ht
  subst ex
  obtain rfl : u = Value.ref a := rx
  refine getmeth_ok I1 ea D.cl hm l ?_
  refine PySem.W.callWith_K (first := [.ref a]) (h₀ := X.base) I.ok.mod.kin hm.kp (thn (ha.run pos pins s1 σ H1 _ I1 q) fun us s2 ⟨vs, H2, I2, r, q2⟩ => ⟨I2.kIn, ?_⟩) hst hpl
  exact run_fnSD (us := .ref a :: us) (vs := .ref a :: vs) F (hr.mono hj) hb hd (hx σ) I2 (.cons rfl r) q2
theorem passS (h : Passes CT X E1) : ∀ σ, PassesAt CT X σ ((fun _ => E1) σ) := fun σ pins H s e s' I c => h pins σ H s e s' I c
/-- it may raise, not here -/
theorem pe_methL (he : PE X o ta) (D : KnM X.prog X.w X.K X.mg X.base (L2.CX X.prog X.w) j C m ps dvs sp) (hr : Room k X.A) (hj : j ≤ k) (ha : PA X (e :: es) t)
    (hst : starEach (e :: es) X.env = (false, eval e X.env) :: starEach es X.env := by rfl) (hpl : (backTo pos (starEach es X.env)).any (·.1) = false := by rfl)
    (ht : eval (.Call (.Attribute o m apos) (e :: es) [] pos) X.env = (do
      let ov ← eval o X.env
      standAt apos.atName
      let (f, first) ← holding [ov] (getMethod ov m pl)
      callWith pos f first (backTo pos (starEach (e :: es) X.env)) (backToKw pos (keywordEach [] X.env))) := by rfl) :
    PE X (.Call (.Attribute o m apos) (e :: es) [] pos) (tMethS C m sp dvs (fun _ => L2.E0) ta t) :=
  pe_methS he D hr hj (passS passL) ha hst hpl ht
/-- o.m() -/
theorem pe_methL0 (he : PE X o ta) (D : KnM X.prog X.w X.K X.mg X.base CX0 j C m ps dvs sp) (hr : Room k X.A) (hj : j ≤ k)
    (ht : eval (.Call (.Attribute o m apos) [] [] pos) X.env = (do
      let ov ← eval o X.env
      standAt apos.atName
      let (f, first) ← holding [ov] (getMethod ov m pl)
      callWith pos f first (backTo pos (starEach [] X.env)) (backToKw pos (keywordEach [] X.env))) := by rfl) :
    PE X (.Call (.Attribute o m apos) [] [] pos) (tMeth C m sp dvs L2.E0 ta tNil) := by
  obtain ⟨f, fd, ds, F, hm, hb, hd⟩ := D.ex
  exact pe_meth0 he D.cl hm F (hr.mono hj) hb hd pass0 ht
/-- C(e, ..) -/
theorem pe_new (D : KnI X.prog X.w X.K X.mg X.base CT j C x ps sp) (hr : Room k X.A) (hj : j + 1 ≤ k) (hx : Passes CT X E1) (ha : PA X (e :: es) t) (hg : Gl X x)
    (hdb : (x == ("__debug__" : Str)) = false := by decide) (he : starEach (e :: es) X.env = (false, eval e X.env) :: starEach es X.env := by rfl) (hpl : (backTo pos (starEach es X.env)).any (·.1) = false := by rfl) :
    PE X (.Call (.Name x p) (e :: es) [] pos) (tMake C sp [] E1 t) := by
  obtain ⟨f, fd, F, M, hm, hb⟩ := D.ex
  exact pe_make M F (hr.mono hj) hg hm hb .nil hx ha hdb he hpl
end
/-! ### readers -/
theorem kWR : ¬ (("_wheel" : Str) = "_rule") := by decide +kernel
theorem kWT : ¬ (("_wheel" : Str) = "_told") := by decide +kernel
theorem kRT : ¬ (("_rule" : Str) = "_told") := by decide +kernel
/-- the attributes of a reader, as __init__ stores them -/
def rflds (n : Int) (ra : Addr) (t : Int) : List (Str × V) := putF "_told" (.int t) (putF "_rule" (.ref ra) (putF "_wheel" (.int n) []))
theorem rflds_eq (n : Int) (ra : Addr) (t : Int) : rflds n ra t = ([("_wheel", V.int n), ("_rule", V.ref ra), ("_told", V.int t)] : List (Str × V)) := by
  have e1 : putF "_wheel" (V.int n) [] = ([("_wheel", V.int n)] : List (Str × V)) := rfl
  have e2 : putF "_rule" (V.ref ra) ([("_wheel", V.int n)] : List (Str × V)) = ([("_wheel", V.int n), ("_rule", V.ref ra)] : List (Str × V)) := by
    show (if ("_wheel" : Str) = "_rule" then _ else (("_wheel" : Str), V.int n) :: putF "_rule" (V.ref ra) []) = _
    rw [if_neg kWR]; rfl
  unfold rflds
  rw [e1, e2]
  show (if ("_wheel" : Str) = "_told" then _ else (("_wheel" : Str), V.int n) :: (if ("_rule" : Str) = "_told" then _ else (("_rule" : Str), V.ref ra) :: putF "_told" (V.int t) [])) = _
  rw [if_neg kWT, if_neg kRT]; rfl
theorem rflds_wheel (n : Int) (ra : Addr) (t : Int) : (rflds n ra t).lookup ("_wheel" : Str) = some (.int n) := by
  unfold rflds
  rw [lookup_putF, if_neg (by decide +kernel), lookup_putF, if_neg (by decide +kernel), lookup_putF, if_pos rfl]
theorem rflds_rule (n : Int) (ra : Addr) (t : Int) : (rflds n ra t).lookup ("_rule" : Str) = some (.ref ra) := by
  unfold rflds
  rw [lookup_putF, if_neg (by decide +kernel), lookup_putF, if_pos rfl]
theorem rflds_told (n : Int) (ra : Addr) (t : Int) : (rflds n ra t).lookup ("_told" : Str) = some (.int t) := by
  unfold rflds
  rw [lookup_putF, if_pos rfl]
theorem rflds_no (n : Int) (ra : Addr) (t : Int) {m : Str} (h1 : ¬ m = "_told") (h2 : ¬ m = "_rule") (h3 : ¬ m = "_wheel") : (rflds n ra t).lookup m = none := by
  unfold rflds
  rw [lookup_putF, if_neg h1, lookup_putF, if_neg h2, lookup_putF, if_neg h3]
  rfl
theorem rflds_look (n : Int) (ra : Addr) (t : Int) : (rflds n ra t).lookup ("look" : Str) = none := rflds_no n ra t (by decide +kernel) (by decide +kernel) (by decide +kernel)
theorem rflds_now (n : Int) (ra : Addr) (t : Int) : (rflds n ra t).lookup ("now" : Str) = none := rflds_no n ra t (by decide +kernel) (by decide +kernel) (by decide +kernel)
theorem rflds_put (n : Int) (ra : Addr) (t u : Int) : putF "_told" (.int u) (rflds n ra t) = rflds n ra u := by
  rw [rflds_eq, rflds_eq]
  show (if ("_wheel" : Str) = "_told" then _ else (("_wheel" : Str), V.int n) :: (if ("_rule" : Str) = "_told" then _ else (("_rule" : Str), V.ref ra) :: (if ("_told" : Str) = "_told" then [(("_told" : Str), V.int u)] else _))) = _
  rw [if_neg kWT, if_neg kRT, if_pos rfl]
/-- all but p stays -/
def Upto (p : Addr) (H H' : Hp) : Prop := ∀ b o, b ≠ p → H b = some o → H' b = some o
theorem Upto.trans {p : Addr} {H H1 H2 : Hp} (a : Upto p H H1) (b : Upto p H1 H2) : Upto p H H2 := fun c o n e => b c o n (a c o n e)
theorem Upto.of {p : Addr} {H H' : Hp} (s : Same H H') : Upto p H H' := fun c o _ e => s c o e
/-- a reader stands at p: its wheel, its rule at ra, the long time told last -/
structure RdAt (C : Addr) (H : Hp) (p : Addr) (n : Int) (ra : Addr) (r : Rul) (t : Int) : Prop where
  ob : ∃ dx, H p = some (.ins C dx (rflds n ra t))
  ru : H ra = some (.tup (rulT r))
  wh : Wh n
  ok : RulOk n r
theorem RdAt.same {C : Addr} {H H' : Hp} {p : Addr} {n : Int} {ra : Addr} {r : Rul} {t : Int} (d : RdAt C H p n ra r t) (s : Same H H') : RdAt C H' p n ra r t := by
  obtain ⟨⟨dx, e⟩, e2, h1, h2⟩ := d
  exact ⟨⟨dx, s _ _ e⟩, s _ _ e2, h1, h2⟩
theorem Upto.lst {p q C dx : Addr} {H H' : Hp} {fs : List (Str × V)} {o : HO} (u : Upto p H H') (hp : H p = some (.ins C dx fs)) (e : H q = some o) (h : ∀ C dx fs, o ≠ .ins C dx fs) : H' q = some o :=
  u q o (fun z => by rw [z, hp] at e; exact h _ _ _ (Option.some.inj e).symm) e
theorem Upto.seq {K : PySem.W.Frag} {p q C dx : Addr} {H H' : Hp} {fs : List (Str × V)} {xs : List V} (u : Upto p H H') (hp : H p = some (.ins C dx fs)) (h : SqL K H q xs) : SqL K H' q xs := by
  rcases h with (h | ⟨o, h⟩) | h
  · exact .inl (.inl (u.lst hp h fun _ _ _ z => (nomatch z)))
  · exact .inl (.inr ⟨o, u.lst hp h fun _ _ _ z => (nomatch z)⟩)
  · exact .inr h
/-- what the walk asks of the class Reader as the top has made it -/
structure RdTxt (K : PySem.W.Frag) (C : Addr) : Prop where
  cl : Cls K C
  nW : NoAttr K C "_wheel"
  nR : NoAttr K C "_rule"
  nT : NoAttr K C "_told"
def spRdInit (C CW CR : Addr) (K : PySem.W.Frag) : Sp := fun vs H Q E => ∃ (p dx : Addr) (n : Int) (a : Addr) (t : Int), vs = [.ref p, .int n, .ref a, .int t] ∧ H p = some (.ins C dx []) ∧ RulIn K CW CR n a H E fun r =>
  ∀ H', Upto p H H' → RdAt C H' p n a r t → Q .non H'
/-- what look promises of a shown number s -/
def spRdLook (K : PySem.W.Frag) (C CS CN : Addr) : Sp := fun vs H Q E => ∃ (p : Addr) (v ab : V) (n : Int) (ra : Addr) (r : Rul) (t : Int) (s : Int × Int), vs = [.ref p, v, ab] ∧ RdAt C H p n ra r t ∧ SeenAt K H r v s ∧ Sm s.1 ∧ Sm s.2 ∧
  (¬ ShOk n r s → ∀ H', Same H H' → E (.ref CS) none H') ∧
  (ShOk n r s → ∃ c : Int, (∀ f, r = .about f → ab = .int c ∧ Sm c) ∧
    (∀ g, GapR n r (s.1 - (shS n r t).1, s.2 - (shS n r t).2) c (some g) → ∀ H', Upto p H H' → RdAt C H' p n ra r (t + g) → Q (.int (t + g)) H') ∧
    (GapR n r (s.1 - (shS n r t).1, s.2 - (shS n r t).2) c none → ∀ H', Same H H' → E (.ref CN) none H'))
/-- whether a reader tells a time -/
def spTells (K : PySem.W.Frag) (C : Addr) : Sp := fun vs H Q _ => ∃ (p : Addr) (v ab : V) (tm n : Int) (ra : Addr) (r : Rul) (t : Int) (s : Int × Int) (c : Int), vs = [.ref p, v, ab, .int tm] ∧ RdAt C H p n ra r t ∧ SeenAt K H r v s ∧ Sm s.1 ∧ Sm s.2 ∧ ShOk n r s ∧
  (∀ f, r = .about f → ab = .int c ∧ Sm c) ∧
  (∀ g, GapR n r (s.1 - (shS n r t).1, s.2 - (shS n r t).2) c (some g) → ∀ H', Upto p H H' → RdAt C H' p n ra r (t + g) → Q (.bl (decide (t + g = tm))) H') ∧
  (GapR n r (s.1 - (shS n r t).1, s.2 - (shS n r t).2) c none → ∀ H', Same H H' → Q (.bl false) H')
/-- how many abouts are asked for -/
def wanted (r : Rul) (m : Nat) : Int := match r with
  | .about _ => (m : Int) - 1
  | _ => 0
def spCheckCounts (K : PySem.W.Frag) (CG : Addr) : Sp := fun vs H Q E => ∃ (a pt pa : Addr) (r : Rul) (ts as : List Int), vs = [.ref a, .ref pt, .ref pa] ∧ H a = some (.tup (rulT r)) ∧ SqL K H pt (ts.map V.int) ∧ SqL K H pa (as.map V.int) ∧ ts.length ≤ 1000 ∧ as.length ≤ 1000 ∧
  (ts = [] ∨ (as.length : Int) ≠ wanted r ts.length → E (.ref CG) none H) ∧ (ts ≠ [] → (as.length : Int) = wanted r ts.length → Q .non H)
/-- the look at place j (the one number j + 1) is told right -/
def rightB (n : Int) (r : Rul) (ts as : List Int) (j : Nat) : Bool := decide ((gd n r (as.getD j 0)).1 ≤ ts.getD (j + 1) 0 - ts.getD j 0 ∧ ts.getD (j + 1) 0 - ts.getD j 0 ≤ (gd n r (as.getD j 0)).2)
/-- the number of the first look that isn't told right -/
def fwP (n : Int) (r : Rul) (ts as : List Int) : Option Nat := firstP (fun j => !rightB n r ts as j) (ts.length - 1)
def placeV1 : Option Nat → V
  | none => .non
  | some p => .int ((p : Int) + 1)
def spFirstWrong (K : PySem.W.Frag) (CW CR CG : Addr) : Sp := fun vs H Q E => ∃ (n : Int) (a pt pa : Addr) (ts as : List Int), vs = [.int n, .ref a, .ref pt, .ref pa] ∧ SqL K H pt (ts.map V.int) ∧ SqL K H pa (as.map V.int) ∧ ts.length ≤ 1000 ∧ as.length ≤ 1000 ∧ (∀ x ∈ as, Sm x) ∧
  RulIn K CW CR n a H E fun r => (ts = [] ∨ (as.length : Int) ≠ wanted r ts.length → ∀ H', Same H H' → E (.ref CG) none H') ∧
    (ts ≠ [] → (as.length : Int) = wanted r ts.length → ∀ H', Same H H' → Q (placeV1 (fwP n r ts as)) H')
def spRdNow (C : Addr) : Sp := fun vs H Q _ => ∃ (p : Addr) (n : Int) (ra : Addr) (r : Rul) (t : Int), vs = [.ref p] ∧ RdAt C H p n ra r t ∧ Q (.int t) H
end Lx

namespace Lx
open PySem PySem.Spec PyProof.Rows L2 LamX NdefX
/-! ### rows of times -/
theorem But.back {S p : Addr} {H H' : Hp} (b : But S H H') (h : H' p = none) (n : p ≠ S) : H p = none := by
  cases e : H p with
  | none => rfl
  | some o => rw [b.keep p o n e] at h; cases h
def spTimes (K : PySem.W.Frag) : Sp := fun vs H Q _ => ∃ (S : Addr) (n : Int) (ra : Addr) (m : Int) (r : Rul), vs = [.ref S, .int n, .ref ra, .int m] ∧ Wh n ∧ RulOk n r ∧ StAt K S H ∧ H ra = some (.tup (rulT r)) ∧ 0 ≤ m ∧ m ≤ 900 ∧
  ∀ (p pt pa : Addr) (ts as : List Int) (H' : Hp), ts ≠ [] → ts.length ≤ 910 → as.length ≤ 910 → (as.length : Int) = wanted r ts.length → (∀ x ∈ as, Sm x) → But S H H' → StAt K S H' →
    H' p = some (.tup [.ref pt, .ref pa]) → H' pt = some (.lst (ts.map V.int)) → H' pa = some (.lst (as.map V.int)) → Q (.ref p) H'
/-- tuples of two lists of numbers, compared -/
theorem shaped_two (ns ms : List Int) : SeqAt.shaped (.tuple [.list (ns.map PyData.int), .list (ms.map PyData.int)]) = true := by
  simp [SeqAt.shaped, PyData.canLay0, PyData.canLayAll0, PyData.depth, PyData.depthAll, lay_ints, depth_ints]
theorem eqv_two (ns ms : List Int) : PyData.eqv (.tuple [.list (ns.map PyData.int), .list (ms.map PyData.int)]) (.tuple [.list (ns.map PyData.int), .list (ms.map PyData.int)]) = true := by
  simp [PyData.eqv, PyData.eqvAll]
  exact ⟨eqv_ints ns, eqv_ints ms⟩
theorem ne_two {K : PySem.W.Frag} {H : Hp} {p q a b c d : Addr} {ns ms : List Int} {Q : VK} (hp : SqT K H p [.ref a, .ref b]) (hq : SqT K H q [.ref c, .ref d]) (ha : SqL K H a (ns.map V.int)) (hb : SqL K H b (ms.map V.int)) (hc : SqL K H c (ns.map V.int)) (hd : SqL K H d (ms.map V.int))
    (z : Q (.bl false) H) : rNeD K (.ref p) (.ref q) H Q := by
  refine ⟨_, _, .tup hp (.cons (.lst ha (dpAll_ints ns)) (.cons (.lst hb (dpAll_ints ms)) .nil)), .tup hq (.cons (.lst hc (dpAll_ints ns)) (.cons (.lst hd (dpAll_ints ms)) .nil)), shaped_two ns ms, shaped_two ns ms, ?_⟩
  rw [eqv_two]
  exact z
theorem placeV1_flat (o : Option Nat) : flatV (placeV1 o) = true := by cases o <;> rfl
theorem wanted_next {r : Rul} {m : Nat} {l : Nat} (h : (l : Int) = wanted r m) : wanted r (m + 1) = match r with | .about _ => (l : Int) + 1 | _ => (l : Int) := by
  cases r with
  | about f => have h : (l : Int) = (m : Int) - 1 := h; show ((m + 1 : Nat) : Int) - 1 = (l : Int) + 1; omega
  | up _ => have h : (l : Int) = 0 := h; show (0 : Int) = l; omega
  | near => have h : (l : Int) = 0 := h; show (0 : Int) = l; omega
  | pair _ => have h : (l : Int) = 0 := h; show (0 : Int) = l; omega
/-- the last item of a list that isn't empty -/
theorem at_last_ne {ts : List Int} (h : ts ≠ []) : ∃ z, atI (ts.map V.int) (-1) = some (.int z) := by
  cases ts with
  | nil => exact absurd rfl h
  | cons t r => exact ⟨lastL t r, at_lastL r t⟩
/-- how far a look is from the last one; of about, how much more the about is -/
def farI (r : Rul) (ts as : List Int) (i : Nat) : Int := match r with
  | .about _ => as.getD i 0 - (ts.getD (i + 1) 0 - ts.getD i 0)
  | _ => ts.getD (i + 1) 0 - ts.getD i 0
theorem right_far {n : Int} {r : Rul} {ts as : List Int} {i : Nat} : rightB n r ts as i = decide ((bd n r).1 ≤ farI r ts as i ∧ farI r ts as i ≤ (bd n r).2) := by
  unfold rightB
  refine decide_eq_decide.mpr ?_
  cases r with
  | about f =>
    show as.getD i 0 - f ≤ ts.getD (i + 1) 0 - ts.getD i 0 ∧ ts.getD (i + 1) 0 - ts.getD i 0 ≤ as.getD i 0 + f ↔ -f ≤ as.getD i 0 - (ts.getD (i + 1) 0 - ts.getD i 0) ∧ as.getD i 0 - (ts.getD (i + 1) 0 - ts.getD i 0) ≤ f
    constructor <;> intro h <;> omega
  | up l => exact Iff.rfl
  | near => exact Iff.rfl
  | pair o => exact Iff.rfl
/-- abouts are there just for about -/
theorem abouts_ne {r : Rul} {ts as : List Int} (h : (as.length : Int) = wanted r ts.length) (h2 : 1 < ts.length) : as ≠ [] ↔ ∃ f, r = .about f := by
  cases r with
  | about f =>
    have h : (as.length : Int) = (ts.length : Int) - 1 := h
    exact ⟨fun _ => ⟨f, rfl⟩, fun _ z => by rw [z] at h; have h : (0 : Int) = (ts.length : Int) - 1 := h; omega⟩
  | up l => exact ⟨fun z => absurd (List.length_eq_zero_iff.mp (by have h : (as.length : Int) = 0 := h; omega)) z, fun ⟨_, z⟩ => nomatch z⟩
  | near => exact ⟨fun z => absurd (List.length_eq_zero_iff.mp (by have h : (as.length : Int) = 0 := h; omega)) z, fun ⟨_, z⟩ => nomatch z⟩
  | pair o => exact ⟨fun z => absurd (List.length_eq_zero_iff.mp (by have h : (as.length : Int) = 0 := h; omega)) z, fun ⟨_, z⟩ => nomatch z⟩
/-- xs != [] of a list of numbers -/
theorem ne_nil {K : PySem.W.Frag} {H : Hp} {a b : Addr} {ns : List Int} {Q : VK} (ha : SqL K H a (ns.map V.int)) (hb : SqL K H b []) (q : Q (.bl (!decide (ns = []))) H) : rNeD K (.ref a) (.ref b) H Q := by
  refine ⟨_, _, .lst ha (dpAll_ints ns), .lst hb .nil, shaped_ints ns, shaped_ints [], ?_⟩
  rw [eqv_nil]
  exact q
end Lx

namespace Lx
open PySem PySem.Spec PyProof.Rows L2 LamX NdefX
/-! ### readers, looked at by turns -/
def boolAt (i : Nat) : Expr → Expr
  | .BoolOp _ es _ => es.getD i (.Constant .none 0 ⟨0, 0, 0, 0⟩)
  | e => e
/-- a side: its list at D, its reader at p .. -/
structure Sd where
  D : Addr
  p : Addr
  n : Int
  ra : Addr
  r : Rul
  last : V
  long : Int
  there : Int
def Sd.items (d : Sd) : List V := [.ref d.p, .int d.n, .ref d.ra, d.last, .int d.long, .int d.there]
structure SdAt (K : PySem.W.Frag) (C : Addr) (H : Hp) (d : Sd) : Prop where
  li : H d.D = some (.lst d.items)
  rd : RdAt C H d.p d.n d.ra d.r d.long
  se : SeenAt K H d.r d.last (shS d.n d.r d.there)
  eq : shS d.n d.r d.long = shS d.n d.r d.there
/-- all but the state, a side's list and its reader, and tables, stays -/
def Kp3 (S D p : Addr) (H H' : Hp) : Prop := ∀ b o, b ≠ S → b ≠ D → b ≠ p → (∀ ps, o ≠ .tbl ps) → H b = some o → H' b = some o
theorem Kp3.trans {S D p : Addr} {H H1 H2 : Hp} (a : Kp3 S D p H H1) (b : Kp3 S D p H1 H2) : Kp3 S D p H H2 := fun c o h1 h2 h3 h4 e => b c o h1 h2 h3 h4 (a c o h1 h2 h3 h4 e)
theorem Kp3.same {S D p : Addr} {H H' : Hp} (s : Same H H') : Kp3 S D p H H' := fun c o _ _ _ _ e => s c o e
theorem Kp3.ext {S D p : Addr} {H H' : Hp} (s : ExtN H H') : Kp3 S D p H H' := fun c o _ _ _ h e => s c o e h
theorem Kp3.but {S D p : Addr} {H H' : Hp} (s : But S H H') : Kp3 S D p H H' := fun c o h _ _ _ e => s.keep c o h e
theorem Kp3.upto {S D p : Addr} {H H' : Hp} (s : Upto p H H') : Kp3 S D p H H' := fun c o _ _ h _ e => s c o h e
theorem Kp3.put {S D p : Addr} {H : Hp} {o : HO} : Kp3 S D p H (upd H D o) := fun c u _ h _ _ e => by rw [upd_ne h]; exact e
theorem Upto.ext {p C dx : Addr} {H H' : Hp} {fs : List (Str × V)} (u : Upto p H H') (T : List (Addr × Str)) (hp : H p = some (.ins C dx fs)) (t : Tabs T H) : Tabs T H' := by
  intro q hq
  obtain ⟨ps, h1, h2, h3⟩ := t q hq
  refine ⟨ps, u.lst hp h1 (fun _ _ _ z => (nomatch z)), h2, fun pos cv hc => ?_⟩
  obtain ⟨c, e1, e2⟩ := h3 pos cv hc
  exact ⟨c, e1, u.lst hp e2 fun _ _ _ z => by unfold CodeO at z; cases z⟩
theorem Upto.st {K : PySem.W.Frag} {S p C dx : Addr} {H H' : Hp} {fs : List (Str × V)} (u : Upto p H H') (hp : H p = some (.ins C dx fs)) (s : StAt K S H) : StAt K S H' := by
  obtain ⟨a, ns, i, m, r, e, q, rest⟩ := s
  exact ⟨a, ns, i, m, r, u.lst hp e (fun _ _ _ z => (nomatch z)), u.seq hp q, rest⟩
theorem Upto.scr {S p C dx a : Addr} {H H' : Hp} {fs : List (Str × V)} (u : Upto p H H') (hp : H p = some (.ins C dx fs)) (s : Scr H S a) : Scr H' S a := by
  obtain ⟨zs, e⟩ := s
  exact ⟨zs, u.lst hp e fun _ _ _ z => (nomatch z)⟩
theorem scr_same {S a : Addr} {H H' : Hp} (x : Same H H') (h : Scr H S a) : Scr H' S a := by
  obtain ⟨zs, h⟩ := h
  exact ⟨zs, x _ _ h⟩
/-- the script isn't the list at D -/
def Apt (K : PySem.W.Frag) (S D : Addr) (H : Hp) : Prop := ∃ G, StAt K S G ∧ G D = none ∧ ∀ a, Scr G S a → Scr H S a
theorem Apt.mono {K : PySem.W.Frag} {S D : Addr} {H H' : Hp} (h : Apt K S D H) (s : ∀ a, Scr H S a → Scr H' S a) : Apt K S D H' := by
  obtain ⟨G, g, n, b⟩ := h
  exact ⟨G, g, n, fun a z => s a (b a z)⟩
theorem Apt.put {K : PySem.W.Frag} {S D : Addr} {H : Hp} {o : HO} (h : Apt K S D H) (s : StAt K S H) (n : D ≠ S) : StAt K S (upd H D o) := by
  obtain ⟨G, g, nD, b⟩ := h
  exact StAt.lay2 g nD b s n
theorem SeenAt.kp3 {K : PySem.W.Frag} {S D p : Addr} {H H' : Hp} {r : Rul} {v : V} {s : Int × Int} (u : Kp3 S D p H H') (hS : ∃ xs, H S = some (.lst xs)) (hD : ∃ xs, H D = some (.lst xs)) (hp : ∃ C dx fs, H p = some (.ins C dx fs)) (h : SeenAt K H r v s) : SeenAt K H' r v s := by
  obtain ⟨x1, hS⟩ := hS
  obtain ⟨x2, hD⟩ := hD
  obtain ⟨C, dx, fs, hp⟩ := hp
  cases r with
  | pair o =>
    obtain ⟨q, e1, e2⟩ := h
    refine ⟨q, e1, ?_⟩
    have go : ∀ o, (∀ xs, o ≠ .lst xs) → (∀ C dx fs, o ≠ .ins C dx fs) → (∀ ps, o ≠ .tbl ps) → H q = some o → H' q = some o := fun o n1 n2 n3 e =>
      u q o (fun z => by rw [z, hS] at e; exact n1 _ (Option.some.inj e).symm) (fun z => by rw [z, hD] at e; exact n1 _ (Option.some.inj e).symm) (fun z => by rw [z, hp] at e; exact n2 _ _ _ (Option.some.inj e).symm) n3 e
    rcases e2 with (e2 | ⟨o, e2⟩) | e2
    · exact .inl (.inl (go _ (fun _ z => (nomatch z)) (fun _ _ _ z => (nomatch z)) (fun _ z => (nomatch z)) e2))
    · exact .inl (.inr ⟨o, go _ (fun _ z => (nomatch z)) (fun _ _ _ z => (nomatch z)) (fun _ z => (nomatch z)) e2⟩)
    · exact .inr e2
  | up _ => exact h
  | near => exact h
  | about _ => exact h
theorem SeenAt.upto {K : PySem.W.Frag} {p : Addr} {H H' : Hp} {r : Rul} {v : V} {s : Int × Int} (u : Upto p H H') (hp : ∃ C dx fs, H p = some (.ins C dx fs)) (h : SeenAt K H r v s) : SeenAt K H' r v s := by
  obtain ⟨C, dx, fs, hp⟩ := hp
  cases r with
  | pair o =>
    obtain ⟨q, e1, e2⟩ := h
    refine ⟨q, e1, ?_⟩
    rcases e2 with (e2 | ⟨o, e2⟩) | e2
    · exact .inl (.inl (u.lst hp e2 fun _ _ _ z => (nomatch z)))
    · exact .inl (.inr ⟨o, u.lst hp e2 fun _ _ _ z => (nomatch z)⟩)
    · exact .inr e2
  | up _ => exact h
  | near => exact h
  | about _ => exact h
theorem SeenAt.putL {K : PySem.W.Frag} {D : Addr} {H : Hp} {r : Rul} {v : V} {s : Int × Int} {xs : List V} {o : HO} (e : H D = some (.lst xs)) (h : SeenAt K H r v s) : SeenAt K (upd H D o) r v s := by
  cases r with
  | pair o =>
    obtain ⟨q, e1, e2⟩ := h
    refine ⟨q, e1, ?_⟩
    rcases e2 with (e2 | ⟨o, e2⟩) | e2
    · exact .inl (.inl (put_keep e e2 fun _ z => (nomatch z)))
    · exact .inl (.inr ⟨o, put_keep e e2 fun _ z => (nomatch z)⟩)
    · exact .inr e2
  | up _ => exact h
  | near => exact h
  | about _ => exact h
theorem RdAt.putL {C D : Addr} {H : Hp} {p : Addr} {n : Int} {ra : Addr} {r : Rul} {t : Int} {xs : List V} {o : HO} (e : H D = some (.lst xs)) (d : RdAt C H p n ra r t) : RdAt C (upd H D o) p n ra r t := by
  obtain ⟨⟨dx, e1⟩, e2, h1, h2⟩ := d
  exact ⟨⟨dx, put_keep e e1 fun _ z => (nomatch z)⟩, put_keep e e2 fun _ z => (nomatch z), h1, h2⟩
theorem RdAt.ext {C : Addr} {H H' : Hp} {p : Addr} {n : Int} {ra : Addr} {r : Rul} {t : Int} (d : RdAt C H p n ra r t) (s : ExtN H H') : RdAt C H' p n ra r t := by
  obtain ⟨⟨dx, e⟩, e2, h1, h2⟩ := d
  exact ⟨⟨dx, s _ _ e fun _ z => (nomatch z)⟩, s _ _ e2 fun _ z => (nomatch z), h1, h2⟩
theorem RdAt.but {K : PySem.W.Frag} {S C : Addr} {H H' : Hp} {p : Addr} {n : Int} {ra : Addr} {r : Rul} {t : Int} (d : RdAt C H p n ra r t) (st : StAt K S H) (b : But S H H') : RdAt C H' p n ra r t := by
  obtain ⟨⟨dx, e⟩, e2, h1, h2⟩ := d
  exact ⟨⟨dx, b _ _ (st.ne e fun _ z => (nomatch z)) e⟩, b _ _ (st.ne e2 fun _ z => (nomatch z)) e2, h1, h2⟩
/-- a step keeps what is shown -/
theorem sh_step {n c long there fa g : Int} {r : Rul} (h : shS n r long = shS n r there)
    (hg : GapR n r ((shS n r (there + fa)).1 - (shS n r there).1, (shS n r (there + fa)).2 - (shS n r there).2) c (some g)) : shS n r (long + g) = shS n r (there + fa) := by
  have key : ∀ m : Int, long % m = there % m → m ∣ g - ((there + fa) % m - there % m) → (long + g) % m = (there + fa) % m := fun m h1 h2 => by
    obtain ⟨k, hk⟩ := h2
    have a1 := Int.mul_ediv_add_emod long m
    have a2 := Int.mul_ediv_add_emod there m
    have a3 := Int.mul_ediv_add_emod (there + fa) m
    refine Int.emod_eq_emod_iff_emod_sub_eq_zero.mpr (Int.emod_eq_zero_of_dvd ⟨k + long / m - (there + fa) / m, ?_⟩)
    rw [Int.mul_sub, Int.mul_add]
    omega
  cases r with
  | pair o =>
    have h1 : (long % n, long % o) = (there % n, there % o) := h
    have h1a := congrArg Prod.fst h1
    have h1b := congrArg Prod.snd h1
    have e1 := key n h1a hg.2.2.1
    have e2 := key o h1b hg.2.2.2
    show ((long + g) % n, (long + g) % o) = ((there + fa) % n, (there + fa) % o)
    rw [e1, e2]
  | up l =>
    have h1a := congrArg Prod.fst h
    have e1 := key n h1a hg.2.2
    show ((long + g) % n, (0 : Int)) = ((there + fa) % n, 0)
    rw [e1]
  | near =>
    have h1a := congrArg Prod.fst h
    have e1 := key n h1a hg.2.2
    show ((long + g) % n, (0 : Int)) = ((there + fa) % n, 0)
    rw [e1]
  | about l =>
    have h1a := congrArg Prod.fst h
    have e1 := key n h1a hg.2.2
    show ((long + g) % n, (0 : Int)) = ((there + fa) % n, 0)
    rw [e1]
theorem gap_uniq {n c g1 g2 : Int} {r : Rul} {d : Int × Int} (hn : Wh n) (ok : RulOk n r) (h1 : GapR n r d c (some g1)) (h2 : GapR n r d c (some g2)) : g1 = g2 := gap_one hn ok h1.1 h1.2.1 h1.2.2 h2.1 h2.2.1 h2.2.2
theorem gap_not {n c g : Int} {r : Rul} {d : Int × Int} (h1 : GapR n r d c (some g)) (h2 : GapR n r d c none) : False := h2 g h1.1 h1.2.1 h1.2.2
theorem SdAt.same {K : PySem.W.Frag} {C : Addr} {H H' : Hp} {d : Sd} (f : SdAt K C H d) (s : Same H H') : SdAt K C H' d := ⟨s _ _ f.li, f.rd.same s, f.se.same s, f.eq⟩
theorem SdAt.ext {K : PySem.W.Frag} {C : Addr} {H H' : Hp} {d : Sd} (f : SdAt K C H d) (s : ExtN H H') : SdAt K C H' d := ⟨lst_ext s f.li, f.rd.ext s, f.se.ext s, f.eq⟩
theorem SdAt.but {K : PySem.W.Frag} {S C : Addr} {H H' : Hp} {d : Sd} (f : SdAt K C H d) (st : StAt K S H) (n : d.D ≠ S) (s : But S H H') : SdAt K C H' d := ⟨s _ _ n f.li, f.rd.but st s, f.se.but st s, f.eq⟩
/-- another side stays -/
theorem SdAt.kp3 {K : PySem.W.Frag} {S C : Addr} {H H' : Hp} {d e : Sd} (f : SdAt K C H d) (g : SdAt K C H e) (hS : ∃ xs, H S = some (.lst xs)) (n1 : d.D ≠ S) (n2 : d.D ≠ e.D) (n3 : d.p ≠ e.p) (u : Kp3 S e.D e.p H H') : SdAt K C H' d := by
  obtain ⟨xs, hS'⟩ := id hS
  obtain ⟨dxe, hpe⟩ := g.rd.ob
  obtain ⟨dxd, hpd⟩ := f.rd.ob
  have lne : ∀ {b c : Addr} {o o' : HO}, H b = some o → H c = some o' → o ≠ o' → b ≠ c := fun h1 h2 h z => h (by rw [z, h2] at h1; exact (Option.some.inj h1).symm)
  refine ⟨u _ _ n1 n2 (lne f.li hpe fun z => (nomatch z)) (fun _ z => (nomatch z)) f.li, ⟨⟨dxd, u _ _ (lne hpd hS' fun z => (nomatch z)) (lne hpd g.li fun z => (nomatch z)) n3 (fun _ z => (nomatch z)) hpd⟩, u _ _ (lne f.rd.ru hS' fun z => (nomatch z)) (lne f.rd.ru g.li fun z => (nomatch z)) (lne f.rd.ru hpe fun z => (nomatch z)) (fun _ z => (nomatch z)) f.rd.ru, f.rd.wh, f.rd.ok⟩, ?_, f.eq⟩
  exact f.se.kp3 u hS ⟨_, g.li⟩ ⟨_, _, _, hpe⟩
theorem SdAt.putL {K : PySem.W.Frag} {C L : Addr} {H : Hp} {d : Sd} {xs : List V} {o : HO} (f : SdAt K C H d) (e : H L = some (.lst xs)) (n : d.D ≠ L) : SdAt K C (upd H L o) d := ⟨by rw [upd_ne n]; exact f.li, f.rd.putL e, f.se.putL e, f.eq⟩
theorem same_put {G H : Hp} {D : Addr} {o : HO} (x : Same G H) (n : G D = none) : Same G (upd H D o) := fun b u e => by
  rw [upd_ne (ne_of_none e n)]
  exact x b u e
/-- two sides, and the list of both at L -/
structure Two (K : PySem.W.Frag) (C : Addr) (T : List (Addr × Str)) (S L : Addr) (d e : Sd) (H : Hp) : Prop where
  li : H L = some (.lst [.ref d.D, .ref e.D])
  d1 : SdAt K C H d
  e1 : SdAt K C H e
  da : Apt K S d.D H
  ea : Apt K S e.D H
  dS : d.D ≠ S
  eS : e.D ≠ S
  dL : d.D ≠ L
  eL : e.D ≠ L
  nD : d.D ≠ e.D
  np : d.p ≠ e.p
  nS : L ≠ S
  st : StAt K S H
  tb : Tabs T H
section
variable {K : PySem.W.Frag} {C : Addr} {T : List (Addr × Str)} {S L : Addr} {d e : Sd} {H H' : Hp}
theorem Two.swap (f : Two K C T S L d e H) : Two K C T S L d e H := f
theorem Two.same (f : Two K C T S L d e H) (s : Same H H') : Two K C T S L d e H' :=
  ⟨s _ _ f.li, f.d1.same s, f.e1.same s, f.da.mono fun a h => scr_same s h, f.ea.mono fun a h => scr_same s h, f.dS, f.eS, f.dL, f.eL, f.nD, f.np, f.nS, f.st.same s, f.tb.ext s⟩
theorem Two.but (f : Two K C T S L d e H) (b : But S H H') (st : StAt K S H') : Two K C T S L d e H' :=
  ⟨b _ _ f.nS f.li, f.d1.but f.st f.dS b, f.e1.but f.st f.eS b, f.da.mono fun a h => b.scr a h, f.ea.mono fun a h => b.scr a h, f.dS, f.eS, f.dL, f.eL, f.nD, f.np, f.nS, st, tabs_but f.tb b f.st⟩
theorem kp3_li {o : Sd} {xs : List V} (n1 : L ≠ S) (n2 : L ≠ o.D) (g : SdAt K C H o) (u : Kp3 S o.D o.p H H') (e : H L = some (.lst xs)) : H' L = some (.lst xs) := by
  obtain ⟨dx, hp⟩ := g.rd.ob
  exact u _ _ n1 n2 (fun z => by rw [z, hp] at e; cases e) (fun _ z => (nomatch z)) e
/-- the first one is looked at -/
theorem Two.fst {d' : Sd} (f : Two K C T S L d e H) (eD : d'.D = d.D) (ep : d'.p = d.p) (h : SdAt K C H' d') (st : StAt K S H') (tb : Tabs T H') (sc : ∀ a, Scr H S a → Scr H' S a) (u : Kp3 S d.D d.p H H') : Two K C T S L d' e H' :=
  ⟨by rw [eD]; exact kp3_li f.nS (Ne.symm f.dL) f.d1 u f.li, h, f.e1.kp3 f.d1 f.st.is f.eS (Ne.symm f.nD) (Ne.symm f.np) u, by rw [eD]; exact f.da.mono sc, f.ea.mono sc, by rw [eD]; exact f.dS, f.eS, by rw [eD]; exact f.dL, f.eL, by rw [eD]; exact f.nD, by rw [ep]; exact f.np, f.nS, st, tb⟩
theorem Two.snd {e' : Sd} (f : Two K C T S L d e H) (eD : e'.D = e.D) (ep : e'.p = e.p) (h : SdAt K C H' e') (st : StAt K S H') (tb : Tabs T H') (sc : ∀ a, Scr H S a → Scr H' S a) (u : Kp3 S e.D e.p H H') : Two K C T S L d e' H' :=
  ⟨by rw [eD]; exact kp3_li f.nS (Ne.symm f.eL) f.e1 u f.li, f.d1.kp3 f.e1 f.st.is f.dS f.nD f.np u, h, f.da.mono sc, by rw [eD]; exact f.ea.mono sc, f.dS, by rw [eD]; exact f.eS, f.dL, by rw [eD]; exact f.eL, by rw [eD]; exact f.nD, by rw [ep]; exact f.np, f.nS, st, tb⟩
end
/-- what goes on to hold while a side is looked at -/
structure Fx (K : PySem.W.Frag) (C : Addr) (T : List (Addr × Str)) (S : Addr) (d : Sd) (H H' : Hp) : Prop where
  sd : SdAt K C H' d
  st : StAt K S H'
  tb : Tabs T H'
  sc : ∀ a, Scr H S a → Scr H' S a
  kp : Kp3 S d.D d.p H H'
section
variable {K : PySem.W.Frag} {C : Addr} {T : List (Addr × Str)} {S : Addr} {d : Sd} {H H1 H2 : Hp}
theorem Fx.same (f : Fx K C T S d H H1) (s : Same H1 H2) : Fx K C T S d H H2 := ⟨f.sd.same s, f.st.same s, f.tb.ext s, fun a h => scr_same s (f.sc a h), f.kp.trans (.same s)⟩
theorem Fx.ext (f : Fx K C T S d H H1) (s : ExtN H1 H2) (t : Tabs T H2) : Fx K C T S d H H2 := ⟨f.sd.ext s, f.st.ext s, t, fun a h => scr_ext s (f.sc a h), f.kp.trans (.ext s)⟩
theorem Fx.but (f : Fx K C T S d H H1) (n : d.D ≠ S) (b : But S H1 H2) (st : StAt K S H2) : Fx K C T S d H H2 := ⟨f.sd.but f.st n b, st, tabs_but f.tb b f.st, fun a h => b.scr a (f.sc a h), f.kp.trans (.but b)⟩
end
def toldV (long : Int) : Option Int → V
  | some g => .int (long + g)
  | none => .str "NoGap"
def toldN (long : Int) : Option Int → Int
  | some g => long + g
  | none => long
end Lx

namespace Lx
open PySem PySem.Spec PyProof.Rows L2 LamX NdefX
/-! ### lambdas whose frame has ended: their cells are tracked -/
/-- the object at c is a cell that holds v -/
def CelO (c : Addr) (v : V) : HO := .ext fun h => ∃ u, L2.RelV v u ∧ h.IsCell c (some u)
structure CellsT (cl : List (Str × Addr)) (fr : List Str) (ws : List (Option V)) (H : Hp) : Prop where
  len : ws.length = fr.length
  all : ∀ y c, cl.lookup y = some c → ∃ v, H c = some (CelO c v)
  inj : ∀ x y c, cl.lookup x = some c → cl.lookup y = some c → x = y
  has : ∀ (i : Nat) (y : Str), fr[i]? = some y → ∃ c v, cl.lookup y = some c ∧ H c = some (CelO c v) ∧ ws[i]? = some (some v)
def inC (cl : List (Str × Addr)) (b : Addr) : Bool := cl.any fun q => decide (cl.lookup q.1 = some b)
theorem inC_iff {cl : List (Str × Addr)} {b : Addr} : inC cl b = true ↔ ∃ y, cl.lookup y = some b := by
  unfold inC
  rw [List.any_eq_true]
  exact ⟨fun ⟨q, _, h⟩ => ⟨q.1, of_decide_eq_true h⟩, fun ⟨y, h⟩ => ⟨(y, b), PySem.mem_of_lookup h, decide_eq_true h⟩⟩
/-- the cells forgotten; the cells as they stood in H -/
def mn (cl : List (Str × Addr)) (H : Hp) : Hp := fun b => if inC cl b = true then none else H b
def pl (cl : List (Str × Addr)) (H H' : Hp) : Hp := fun b => if inC cl b = true then H b else H' b
theorem mn_in {cl : List (Str × Addr)} {H : Hp} {b : Addr} (h : inC cl b = true) : mn cl H b = none := if_pos h
theorem mn_out {cl : List (Str × Addr)} {H : Hp} {b : Addr} (h : ¬ inC cl b = true) : mn cl H b = H b := if_neg h
theorem pl_in {cl : List (Str × Addr)} {H H' : Hp} {b : Addr} (h : inC cl b = true) : pl cl H H' b = H b := if_pos h
theorem pl_out {cl : List (Str × Addr)} {H H' : Hp} {b : Addr} (h : ¬ inC cl b = true) : pl cl H H' b = H' b := if_neg h
theorem CellsT.at_ {cl : List (Str × Addr)} {fr : List Str} {ws : List (Option V)} {H : Hp} (C : CellsT cl fr ws H) {b : Addr} (h : inC cl b = true) : ∃ v, H b = some (CelO b v) := by
  obtain ⟨y, e⟩ := inC_iff.mp h
  exact C.all y b e
/-- what isn't another thing stands outside -/
theorem CellsT.out {cl : List (Str × Addr)} {fr : List Str} {ws : List (Option V)} {H : Hp} (C : CellsT cl fr ws H) {b : Addr} {o : HO} (e : H b = some o) (n : ∀ φ, o ≠ .ext φ) : ¬ inC cl b = true := fun h => by
  obtain ⟨v, z⟩ := C.at_ h
  rw [e] at z
  exact n _ (Option.some.inj z)
theorem CellsT.outN {cl : List (Str × Addr)} {fr : List Str} {ws : List (Option V)} {H : Hp} (C : CellsT cl fr ws H) {b : Addr} (e : H b = none) : ¬ inC cl b = true := fun h => by
  obtain ⟨v, z⟩ := C.at_ h
  rw [e] at z; cases z
theorem CellsT.keep {cl : List (Str × Addr)} {fr : List Str} {ws : List (Option V)} {H H' : Hp} (C : CellsT cl fr ws H) (k : ∀ b v, H b = some (CelO b v) → H' b = some (CelO b v)) : CellsT cl fr ws H' :=
  ⟨C.len, fun y c e => by obtain ⟨v, z⟩ := C.all y c e; exact ⟨v, k _ _ z⟩, C.inj, fun i y e => by obtain ⟨c, v, h1, h2, h3⟩ := C.has i y e; exact ⟨c, v, h1, k _ _ h2, h3⟩⟩
theorem mn_stay {P : Program} {w : World} {cl : List (Str × Addr)} {fr : List Str} {ws : List (Option V)} {H : Hp} {h : Heap} (C : CellsT cl fr ws H) (ok : HOk P w H h) : HOk P w (mn cl H) h := fun b o e => by
  have nb : ¬ inC cl b = true := fun z => by rw [mn_in z] at e; cases e
  rw [mn_out nb] at e
  exact (ok b o e).stay (fun _ _ _ q => q) (fun c q => by rw [mn_out (C.out q fun _ z => (nomatch z))]; exact q) fun c xs q => by rw [mn_out (C.out q fun _ z => (nomatch z))]; exact q
theorem cel_at {P : Program} {w : World} {H : Hp} {h : Heap} {c : Addr} {v : V} (ok : HOk P w H h) (e : H c = some (CelO c v)) : ∃ u, L2.RelV v u ∧ h.IsCell c (some u) := (ok c _ e).1
theorem cel_ok {P : Program} {w : World} {H : Hp} {h : Heap} {c : Addr} {v : V} {u : Value} (r : L2.RelV v u) (z : h.IsCell c (some u)) : L2.ObjOk P w H h c (CelO c v) := by
  obtain ⟨o, ho, hd⟩ := z
  refine ⟨⟨u, r, o, ho, hd⟩, ⟨o, ho⟩, fun h1 h2 ⟨u', r', o', e', d'⟩ st => ⟨u', r', o', st _ e', d'⟩⟩
section
variable {P : Program} {w : World} {K : PySem.W.Frag} {mg : Str → Option Value} {base : Heap} {k : Nat} {f : Addr} {F : NF} {eb : Expr} {fr : List Str} {sp : List (Option V) → Hp → VK → XK → Prop}
theorem LOk.track (L : LOk P w K mg base (L2.CX P w) k f F eb fr sp) {A : Around} {outer : List Env} {s : Shared} {H : Hp} {ws : List (Option V)} {Q : VK} {E : XK} (hr : Room k A) (e0 : Env0 P w K mg base A outer s H) (hf : H f = some (LmO f F eb)) (hc : H F.c = some (CodeO F.c F.qual))
    (C : CellsT F.cl fr ws H) (h : sp ws (mn F.cl H) (fun v H' => Q v (pl F.cl H H')) (fun cls d H' => E cls d (pl F.cl H H'))) : codeAny (model P w) A (.call (.ref f) ⟨[], []⟩) (CR (L2.CX P w) outer P w H s Q E) s := by
  have nf : ¬ inC F.cl f = true := fun z => by
    obtain ⟨v, e⟩ := C.at_ z
    obtain ⟨u, _, o, ho, hd⟩ := cel_at e0.hok e
    obtain ⟨pm, ctv, ho'⟩ := lmO_at e0.hok hf
    rw [ho] at ho'
    have := Option.some.inj ho'
    rw [this] at hd
    cases hd
  have nc : ¬ inC F.cl F.c = true := fun z => by
    obtain ⟨v, e⟩ := C.at_ z
    obtain ⟨u, _, o, ho, hd⟩ := cel_at e0.hok e
    obtain ⟨⟨oc, vs, t, h1, h2, _⟩, _⟩ := e0.hok _ _ hc
    rw [ho] at h1
    have := Option.some.inj h1
    rw [← this, hd] at h2
    cases h2
  have e1 : Env0 P w K mg base A outer s (mn F.cl H) := by
    refine ⟨e0.frames, e0.mod, fun b o e => ⟨(e0.bs b o e).1, ?_⟩, e0.bsz, e0.funs, fun b hb => ?_, mn_stay C e0.hok, e0.bare⟩
    · rw [mn_out (C.outN (e0.bs b o e).2)]; exact (e0.bs b o e).2
    · rw [mn_out (C.outN (e0.frf b hb))]; exact e0.frf b hb
  have cells : CellsAt F.cl fr ws s.heap (mn F.cl H) := by
    refine ⟨C.len, fun y c e => ?_, C.inj, fun i y e => ?_⟩
    · obtain ⟨v, z⟩ := C.all y c e
      obtain ⟨u, _, q⟩ := cel_at e0.hok z
      exact ⟨mn_in (inC_iff.mpr ⟨y, e⟩), _, q⟩
    · obtain ⟨c, v, h1, h2, h3⟩ := C.has i y e
      obtain ⟨u, r, q⟩ := cel_at e0.hok h2
      refine ⟨c, h1, fun v' ev => ?_⟩
      rw [h3] at ev
      have ev := Option.some.inj (Option.some.inj ev)
      subst ev
      exact ⟨u, r, q⟩
  have nfr : ∀ b, inC F.cl b = true → b ∉ frs outer := fun b z hb => by
    obtain ⟨v, e⟩ := C.at_ z
    rw [e0.frf b hb] at e; cases e
  have back : ∀ b, H b = none → mn F.cl H b = none := fun b n => by rw [mn_out (C.outN n)]; exact n
  refine codeAny_mono (L.run A outer s (mn F.cl H) ws _ _ hr e1 (by rw [mn_out nf]; exact hf) (by rw [mn_out nc]; exact hc) cells h) fun r s' z => ?_
  cases r with
  | error e =>
    obtain ⟨a, B, H', cls, d, rfl, fl, hok, ub, na, os, ag, q⟩ := z
    have cellB : ∀ b, inC F.cl b = true → ∃ v, H b = some (CelO b v) ∧ (∃ u, L2.RelV v u ∧ B.IsCell b (some u)) ∧ H' b = none := fun b hb => by
      obtain ⟨v, e⟩ := C.at_ hb
      obtain ⟨u, r, o, ho, hd⟩ := cel_at e0.hok e
      exact ⟨v, e, ⟨u, r, o, ub.keep b o ho (mn_in hb) (nfr b hb), hd⟩, ub.free b o ho (mn_in hb)⟩
    refine ⟨a, B, pl F.cl H H', cls, d, rfl, fl, fun b o e => ?_, ⟨fun b o e n hb => ub.keep b o e (back b n) hb, ub.slot, fun b o e n => ?_, ub.there, fun b xs e => ?_, fun b o xs e => ?_, fun b ps e => ?_⟩, ?_, os, ag, q⟩
    · by_cases hb : inC F.cl b = true
      · rw [pl_in hb] at e
        obtain ⟨v, e', ⟨u, r, z⟩, _⟩ := cellB b hb
        rw [e'] at e
        have e := Option.some.inj e
        subst e
        exact cel_ok r z
      · rw [pl_out hb] at e
        have pk : ∀ c o, H' c = some o → pl F.cl H H' c = some o := fun c o q => by
          by_cases hc : inC F.cl c = true
          · obtain ⟨_, _, _, n⟩ := cellB c hc
            rw [n] at q; cases q
          · rw [pl_out hc]; exact q
        exact (hok b o e).stay (fun _ _ _ q => q) (fun c q => pk _ _ q) fun c xs q => pk _ _ q
    · rw [pl_out (C.outN n)]; exact ub.free b o e (back b n)
    · have nb := C.out e fun _ z => (nomatch z)
      rw [pl_out nb]; exact ub.tups b xs (by rw [mn_out nb]; exact e)
    · have nb := C.out e fun _ z => (nomatch z)
      rw [pl_out nb]; exact ub.frzs b o xs (by rw [mn_out nb]; exact e)
    · have nb := C.out e fun _ z => (nomatch z)
      rw [pl_out nb]; exact ub.tbls b ps (by rw [mn_out nb]; exact e)
    · by_cases ha : inC F.cl a = true
      · obtain ⟨_, _, ⟨_, _, o, ho, _⟩, _⟩ := cellB a ha
        rw [fl.2.1] at ho; cases ho
      · rw [pl_out ha]; exact na
  | ok fl =>
    cases fl with
    | next => exact z.elim
    | brk => exact z.elim
    | cont => exact z.elim
    | ret u =>
      obtain ⟨v, H', os, ag, un, hok, rv, q⟩ := z
      have cellB : ∀ b, inC F.cl b = true → ∃ v, H b = some (CelO b v) ∧ (∃ u, L2.RelV v u ∧ s'.heap.IsCell b (some u)) ∧ H' b = none := fun b hb => by
        obtain ⟨v, e⟩ := C.at_ hb
        obtain ⟨u, r, o, ho, hd⟩ := cel_at e0.hok e
        exact ⟨v, e, ⟨u, r, o, un.keep b o ho (mn_in hb) (nfr b hb) (fun z => nomatch z), hd⟩, un.free b o ho (mn_in hb) (fun z => nomatch z)⟩
      refine ⟨v, pl F.cl H H', os, ag, ⟨fun b o e n h1 h2 => un.keep b o e (back b n) h1 h2, fun b o e n h1 h2 => un.slot b o e (back b n) h1 h2, fun b o e n h2 => ?_, un.there, fun b xs e => ?_, fun b o xs e => ?_, fun b ps e => ?_⟩, fun b o e => ?_, rv, q⟩
      · rw [pl_out (C.outN n)]; exact un.free b o e (back b n) h2
      · have nb := C.out e fun _ z => (nomatch z)
        rw [pl_out nb]; exact un.tups b xs (by rw [mn_out nb]; exact e)
      · have nb := C.out e fun _ z => (nomatch z)
        rw [pl_out nb]; exact un.frzs b o xs (by rw [mn_out nb]; exact e)
      · have nb := C.out e fun _ z => (nomatch z)
        rw [pl_out nb]; exact un.tbls b ps (by rw [mn_out nb]; exact e)
      · by_cases hb : inC F.cl b = true
        · rw [pl_in hb] at e
          obtain ⟨v, e', ⟨u, r, z⟩, _⟩ := cellB b hb
          rw [e'] at e
          have e := Option.some.inj e
          subst e
          exact cel_ok r z
        · rw [pl_out hb] at e
          have pk : ∀ c o, H' c = some o → pl F.cl H H' c = some o := fun c o q => by
            by_cases hc : inC F.cl c = true
            · obtain ⟨_, _, _, n⟩ := cellB c hc
              rw [n] at q; cases q
            · rw [pl_out hc]; exact q
          exact (hok b o e).stay (fun _ _ _ q => q) (fun c q => pk _ _ q) fun c xs q => pk _ _ q
end
/-! ### what may be called without arguments -/
structure Cal (P : Program) (w : World) (K : PySem.W.Frag) (mg : Str → Option Value) (base : Heap) (k : Nat) (f : Addr) (spc : Hp → VK → XK → Prop) : Prop where
  run : ∀ (A : Around) (outer : List Env) (s : Shared) (H : Hp) (Q : VK) (E : XK), Room k A → Env0 P w K mg base A outer s H → spc H Q E → codeAny (model P w) A (.call (.ref f) ⟨[], []⟩) (CR (L2.CX P w) outer P w H s Q E) s
  fn : ∀ H Q E, spc H Q E → ∃ F eb, H f = some (LmO f F eb)
/-- a lambda and its tracked cells, its promise -/
def spTr (f : Addr) (F : NF) (eb : Expr) (fr : List Str) (ws : List (Option V)) (sp : List (Option V) → Hp → VK → XK → Prop) : Hp → VK → XK → Prop := fun H Q E =>
  H f = some (LmO f F eb) ∧ H F.c = some (CodeO F.c F.qual) ∧ CellsT F.cl fr ws H ∧ sp ws (mn F.cl H) (fun v H' => Q v (pl F.cl H H')) (fun cls d H' => E cls d (pl F.cl H H'))
theorem LOk.cal {P : Program} {w : World} {K : PySem.W.Frag} {mg : Str → Option Value} {base : Heap} {k : Nat} {f : Addr} {F : NF} {eb : Expr} {fr : List Str} {ws : List (Option V)} {sp : List (Option V) → Hp → VK → XK → Prop} (L : LOk P w K mg base (L2.CX P w) k f F eb fr sp) :
    Cal P w K mg base k f (spTr f F eb fr ws sp) :=
  ⟨fun A outer s H Q E hr e0 h => L.track hr e0 h.1 h.2.1 h.2.2.1 h.2.2.2, fun H Q E h => ⟨_, _, h.1⟩⟩
def tCal (i : Nat) (f : Addr) (spc : Hp → VK → XK → Prop) (W : WX) : TE := fun σ H Q => σ[i]? = some (some (.ref f)) ∧ spc H Q (WE W σ)
theorem pe_calcall {Z : Cx} {f : Addr} {spc : Hp → VK → XK → Prop} {k i : Nat} {a : Str} {W : WX} {p1 p2 : Pos} (L : Cal Z.prog Z.w Z.K Z.mg Z.base k f spc) (hr : Room k Z.A)
    (tk : Takes Z W) (hN : Z.N[i]? = some a) (hv : Vis Z.env.scope a) (hd : (a == ("__debug__" : Str)) = false := by decide) (hcd : (a == ("__classdict__" : Str)) = false := by decide) :
    PE Z (.Call (.Name a p1) [] [] p2) (tCal i f spc W) := by
  refine ⟨fun pins s σ H Q I h => ?_⟩
  obtain ⟨hs, q⟩ := h
  refine wpAny_Call_Name_kw ?_
  refine thn ((pe_var (pos := p1) hN hv hd hcd).run pins s σ H (fun v H1 => v = .ref f ∧ H1 = H) I ⟨.ref f, hs, rfl, rfl⟩) ?_
  intro u s1 z
  obtain ⟨v, H1, I1, r1, rfl, rfl⟩ := z
  obtain rfl : u = Value.ref f := r1
  obtain ⟨F, eb, hf⟩ := L.fn _ _ _ q
  obtain ⟨pm, ctv, ho⟩ := lmO_at I1.hok hf
  refine PySem.W.callWith_F0 (first := []) ⟨_, _, _, _, ho⟩ ?_
  have run := L.run Z.A Z.stack s1 H1 Q (WE W σ) hr I1.env0 q
  refine wpAny_call (codeAny_mono run fun r s' z => ?_)
  cases r with
  | error e => exact passAt tk σ pins H1 s1 e s' I1 z
  | ok fl =>
    cases fl with
    | ret u => exact I1.after z
    | next => exact z.elim
    | brk => exact z.elim
    | cont => exact z.elim
structure TakesCal (P : Program) (w : World) (K : PySem.W.Frag) (mg : Str → Option Value) (base : Heap) (k j : Nat) (g : Addr) (TT : TTy) : Prop where
  run : ∀ (A : Around) (outer : List Env) (s : Shared) (H : Hp) (f : Addr) (spc : Hp → VK → XK → Prop) (Q : VK), Room k A → Env0 P w K mg base A outer s H →
    Cal P w K mg base j f spc → TT (fun E HZ QZ => spc HZ QZ E) H Q → codeAny (model P w) A (.call (.ref g) ⟨[.ref f], []⟩) (CR L2.CX0 outer P w H s Q L2.E0) s
theorem takesCal_of {P : Program} {w : World} {K : PySem.W.Frag} {mg : Str → Option Value} {base : Heap} {k j : Nat} {g : Addr} {TT : TTy}
    {x a : Str} {st : Stmt} {fd : FuncData} {Ng : List Str} (D : L2.Fun K x x st g fd) (hb : L2.Binds K fd [a] []) (Sg : FnScope Ng [a] (defScope st))
    (hbody : ∀ (cdv : Value) (A : Around) (outer : List Env) (s : Shared) (H : Hp) (f : Addr) (spc : Hp → VK → XK → Prop) (Q : VK), Room k (A.deeper (envOfC x (defScope st) s.heap.objs.size g cdv)) →
      Cal P w K mg base j f spc → TT (fun E HZ QZ => spc HZ QZ E) H Q →
      ∃ t, PSs (cxOf L2.CX0 P w K mg base Ng x (defScope st) g cdv A outer s H L2.E0).nox (defBody st) t ∧
        t { nx := fun _ H' => Q .non H', rt := Q } (L2.start Ng [.ref f]) H) :
    TakesCal P w K mg base (k + 1) j g TT := by
  obtain ⟨oc, od, kV, doc, pm, an, cdv, ct, osl, rfl, lk, hcd⟩ := D.ex
  refine ⟨fun A outer s H f spc Q hr e0 L q => ?_⟩
  have KX : K.In s.heap := e0.mod.kin.keeps fun b o e => (e0.bs b o e).1
  refine run_ofS (N := Ng) (ps := [a]) (us := [.ref f]) (vs := [.ref f]) lk hcd Sg hr e0 (hb s [.ref f] KX rfl) (.cons rfl .nil) rfl fun hr' => ?_
  obtain ⟨t, h1, h2⟩ := hbody cdv A outer s H f spc Q hr' L q
  exact ⟨t, h1.nox, h2⟩
def tKindC (P : Program) (w : World) (K : PySem.W.Frag) (mg : Str → Option Value) (base : Heap) (j : Nat) (TT : TTy) (ta : TE) : TE := fun σ H Q => ta σ H fun v H1 => ∃ (f : Addr) (spc : Hp → VK → XK → Prop), v = .ref f ∧ Cal P w K mg base j f spc ∧ TT (fun E HZ QZ => spc HZ QZ E) H1 Q
theorem pe_kindC {P : Program} {w : World} {K : PySem.W.Frag} {mg : Str → Option Value} {base : Heap} {Z : Cx} {k j : Nat} {g : Addr} {TT : TTy} {x : Str} {a : Expr} {ta : TE} {p pos : Pos}
    (G : TakesCal P w K mg base k j g TT) (hZ : Z.prog = P ∧ Z.w = w ∧ Z.K = K ∧ Z.mg = mg ∧ Z.base = base) (hr : Room k Z.A)
    (hg : Gl Z x) (hm : Z.mg x = some (.ref g)) (hk : PySem.W.keepIn Z.K (.ref g) = true) (ha : PE Z a ta)
    (hdb : (x == ("__debug__" : Str)) = false := by decide) (he : starEach (a :: []) Z.env = (false, eval a Z.env) :: starEach [] Z.env := by rfl)
    (hpl : (backTo pos (starEach [] Z.env)).any (·.1) = false := by rfl) :
    PE Z (.Call (.Name x p) [a] [] pos) (tKindC P w K mg base j TT ta) := by
  obtain ⟨rfl, rfl, rfl, rfl, rfl⟩ := hZ
  refine ⟨fun pins s σ H Q I h => ?_⟩
  refine wpAny_Call_Name_kw (ld_glob I hg hm ?_ hdb)
  have pa : PA Z [a] (tCons ta tNil) := pa_cons ha pa_nil he
  refine PySem.W.callWith_K (h₀ := Z.base) I.ok.mod.kin hk (thn (pa.run pos pins s σ H
    (fun vs H1 => ∃ v, vs = [v] ∧ ∃ (f : Addr) (spc : Hp → VK → XK → Prop), v = .ref f ∧ Cal Z.prog Z.w Z.K Z.mg Z.base j f spc ∧ TT (fun E HZ QZ => spc HZ QZ E) H1 Q) I ?_) ?_) he hpl
  · exact (show ta σ H fun v H1 => tNil σ H1 fun vs H2 => ∃ v', v :: vs = [v'] ∧ ∃ (f : Addr) (spc : Hp → VK → XK → Prop), v' = .ref f ∧ Cal Z.prog Z.w Z.K Z.mg Z.base j f spc ∧ TT (fun E HZ QZ => spc HZ QZ E) H2 Q from by
      have e : (fun (v : V) (H1 : Hp) => tNil σ H1 fun vs H2 => ∃ v', v :: vs = [v'] ∧ ∃ (f : Addr) (spc : Hp → VK → XK → Prop), v' = .ref f ∧ Cal Z.prog Z.w Z.K Z.mg Z.base j f spc ∧ TT (fun E HZ QZ => spc HZ QZ E) H2 Q)
          = fun v H1 => ∃ (f : Addr) (spc : Hp → VK → XK → Prop), v = .ref f ∧ Cal Z.prog Z.w Z.K Z.mg Z.base j f spc ∧ TT (fun E HZ QZ => spc HZ QZ E) H1 Q := by
        funext v H1
        refine propext ⟨fun ⟨v', e, z⟩ => ?_, fun z => ⟨v, rfl, z⟩⟩
        have e' : v = v' := by injection e
        rw [e']; exact z
      rw [e]; exact h)
  intro us s1 z
  obtain ⟨vs, H1, I1, r, v, rfl, f, spc, rfl, L, q⟩ := z
  refine ⟨I1.kIn, ?_⟩
  cases r with
  | cons r1 rn =>
    rename_i u us
    cases rn
    obtain rfl : u = Value.ref f := r1
    show wpAny _ _ (call (.ref g) [.ref f]) _ _ _
    refine wpAny_call (codeAny_mono (G.run Z.A Z.stack s1 H1 f spc Q hr I1.env0 L q) fun r s' z => ?_)
    cases r with
    | error e => exact z.elim
    | ok fl =>
      cases fl with
      | ret u => exact I1.after z
      | next => exact z.elim
      | brk => exact z.elim
      | cont => exact z.elim
/-! ### a def that ends by its only return, its slots then told -/
def SPR (X : Cx) (pins : List (Addr × Obj)) (R : L2.St → V → Hp → Prop) (f : Flow) (s' : Shared) : Prop :=
  match f with
  | .ret u => ∃ v σ' H', Inv X pins σ' H' s' ∧ L2.RelV v u ∧ R σ' v H'
  | _ => False
structure PSsR (X : Cx) (st : List Stmt) (t : (L2.St → V → Hp → Prop) → L2.St → Hp → Prop) : Prop where
  run : ∀ (pins : List (Addr × Obj)) (s : Shared) (σ : L2.St) (H : Hp) (R : L2.St → V → Hp → Prop), Inv X pins σ H s → t R σ H → wpAny (model X.prog X.w) X.A (execs st X.env) (SPR X pins R) X.xe s
theorem psr_cons {X : Cx} {st : Stmt} {rest : List Stmt} {t : TS} {u : (L2.St → V → Hp → Prop) → L2.St → Hp → Prop} (h1 : PS X st t) (h2 : PSsR X rest u) :
    PSsR X (st :: rest) (fun R σ H => t { nx := u R, rt := fun _ _ => False } σ H) := by
  refine ⟨fun pins s σ H R I h => ?_⟩
  refine wpAny_execs_cons (thn (h1.run pins s σ H { nx := u R, rt := fun _ _ => False } I h) fun f s1 q => ?_)
  cases f with
  | next =>
    obtain ⟨σ', H', I', q⟩ := q
    exact h2.run pins s1 σ' H' R I' q
  | ret v => obtain ⟨_, _, _, _, _, q⟩ := q; exact q.elim
  | brk => obtain ⟨_, _, _, q⟩ := q; exact q.elim
  | cont => obtain ⟨_, _, _, q⟩ := q; exact q.elim
theorem psr_ret {X : Cx} {e : Expr} {te : TE} {pos : Pos} (he : PE X e te) : PSsR X [.Return (some e) pos] (fun R σ H => te σ H (R σ)) := by
  refine ⟨fun pins s σ H R I h => ?_⟩
  exact wpAny_execs_cons (wpAny_Return_some (thn (he.run pins s σ H _ I h) fun v s1 ⟨x, H1, I1, r1, q1⟩ => ⟨x, σ, H1, I1, r1, q1⟩))
end Lx

namespace Lx
open PySem PySem.Spec PyProof.Rows L2 LamX NdefX
/-- H1: as H, and the cells of the frame told -/
structure TrkAt (X : Cx) (σ : L2.St) (H H1 : Hp) : Prop where
  out : ∀ b, (∀ y, X.env.cells.lookup y ≠ some b) → H1 b = H b
  non : ∀ y c, X.env.cells.lookup y = some c → H c = none
  cel : ∀ (i : Nat) (y : Str) (c : Addr) (x : V), X.N[i]? = some y → X.env.cells.lookup y = some c → σ[i]? = some (some x) → H1 c = some (CelO c x)
  all : ∀ y c, X.env.cells.lookup y = some c → ∃ (i : Nat) (x : V), X.N[i]? = some y ∧ σ[i]? = some (some x)
theorem TrkAt.keep {X : Cx} {σ : L2.St} {H H1 : Hp} (t : TrkAt X σ H H1) {b : Addr} {o : HO} (e : H b = some o) : H1 b = some o := by
  by_cases h : ∃ y, X.env.cells.lookup y = some b
  · obtain ⟨y, z⟩ := h
    rw [t.non y b z] at e; cases e
  · rw [t.out b fun y z => h ⟨y, z⟩]; exact e
theorem TrkAt.cells {X : Cx} {σ : L2.St} {H H1 : Hp} (t : TrkAt X σ H H1) (ok : X.Ok) (nd : X.N.Nodup) {cl : List (Str × Addr)} {fr : List Str} {js : List Nat} (c : Caps X cl fr js) : CellsT cl fr (js.map (slotAt σ)) H1 := by
  refine ⟨?_, fun y a e => ?_, fun x y a e1 e2 => ok.inj x y a (c.sub x a e1) (c.sub y a e2), fun i y e => ?_⟩
  · have q := congrArg List.length c.at_
    rw [List.length_map, List.length_map] at q
    rw [List.length_map]
    exact q
  · have e' := c.sub y a e
    obtain ⟨i, x, h1, h2⟩ := t.all y a e'
    exact ⟨x, t.cel i y a x h1 e' h2⟩
  · have e2 : (js.map fun j => X.N[j]?)[i]? = some (some y) := by
      rw [c.at_, List.getElem?_map, e] <;> rfl
    rw [List.getElem?_map] at e2
    cases ej : js[i]? with
    | none => rw [ej] at e2; cases e2
    | some j =>
      rw [ej] at e2
      have hj : X.N[j]? = some y := Option.some.inj (show some (X.N[j]?) = some (some y) from e2)
      have k := c.kin y (List.mem_of_getElem? e)
      obtain ⟨a, ha⟩ : ∃ a, X.env.cells.lookup y = some a := k.elim (fun z => ok.has y (.inl z)) fun z => ok.has y (.inr z)
      obtain ⟨i2, x, h1, h2⟩ := t.all y a ha
      have w := c.sup y (List.mem_of_getElem? e) a ha
      obtain rfl : j = i2 := nodup_ix nd hj h1
      refine ⟨a, x, w, t.cel j y a x hj ha h2, ?_⟩
      rw [List.getElem?_map, ej]
      show some (NdefX.slotAt σ j) = some (some x)
      have : NdefX.slotAt σ j = some x := by
        unfold NdefX.slotAt
        rw [h2]
      rw [this]
/-- the rule for a def whose frame's cells are told behind its end -/
theorem fn_ofT {CX : CXT} {P : Program} {w : World} {K : PySem.W.Frag} {mg : Str → Option Value} {base : Heap} {k : Nat} {f : Addr} {name qual : Str} {params : Arguments} {body : List Stmt} {scope : Scope} {dV kV doc pm cdv ct oc : Value} {an od : Option Addr}
    {osl : Array (Option Value)} {N ps : List Str} {sp : Sp} (lk : K.lookup f = some ⟨oc, od, .func (PySem.W.fnOf name qual params body scope dV kV doc pm an cdv ct), osl⟩) (hcd : PySem.W.codeIn K cdv qual = true) (S : FnScope N ps scope)
    (len : ∀ vs H Q E, sp vs H Q E → vs.length = ps.length)
    (hbody : ∀ (A : Around) (outer : List Env) (s : Shared) (H : Hp) (vs : List V) (Q : VK) (E : XK), Room k (A.deeper (envOfC qual scope s.heap.objs.size f cdv)) → sp vs H Q E →
      ∃ t, PSsR (cxOf CX P w K mg base N qual scope f cdv A outer s H E) body t ∧
        t (fun σ v H' => (∀ y, scope.names.lookup y = some .cell → ∃ (i : Nat) (x : V), N[i]? = some y ∧ σ[i]? = some (some x)) ∧
          ∀ H1, (cxOf CX P w K mg base N qual scope f cdv A outer s H E).Ok → TrkAt (cxOf CX P w K mg base N qual scope f cdv A outer s H E) σ H' H1 → Q v H1) (start N vs) H)
    (hcell : ∀ y ∈ scope.names, scope.names.lookup y.1 = some y.2) :
    FnOk P w K mg base CX (k + 1) f (PySem.W.fnOf name qual params body scope dV kV doc pm an cdv ct) ps sp := by
  refine ⟨len, fun A outer s H args us vs Q E hr e0 hb r hsp => ?_⟩
  have hl := len _ _ _ _ hsp
  have KX : K.In s.heap := e0.mod.kin.keeps fun b o e => (e0.bs b o e).1
  have lim : s.heap.NoLimit := e0.mod.nolimit.keeps fun b o e => (e0.bs b o e).1
  have hkind : ∀ y ∈ ps.zip us, scope.names.lookup y.1 = some .local ∨ (scope.names.lookup y.1 = some .cell ∧ ((cellsFrom (s.heap.objs.size + 1) scope.names []).lookup y.1).isSome = true) := fun ⟨n, v⟩ hy => by
    rcases S.par n (List.of_mem_zip hy).1 with q | q
    · exact .inl q
    · exact .inr ⟨q, PySem.W.cellsFrom_some _ _ _ (.inl q)⟩
  refine codeAny_call_function hr.depth (KX _ _ lk) rfl S.co S.gen rfl (PySem.W.codeRec_of KX hcd) (hb _ _ _ _ ?_)
  refine wpAny_newFunctionEnv_cells S.kind hkind fun env he s1 x => ?_
  subst he
  refine ⟨lim.keeps x.toInCall.keep, codeAny_func ?_⟩
  obtain ⟨t, ht, hq⟩ := hbody A outer s H vs Q E (hr.deeper _) hsp
  have I : Inv (cxOf CX P w K mg base N qual scope f cdv A outer s H E) [] (start N vs) H s1 := inv_start S hr.hd e0 hl r x
  refine wpAny_mono (ht.run [] s1 (start N vs) H _ I hq) (fun fl s' hs => ?_) fun e s' hs => hs
  cases fl with
  | next => exact hs.elim
  | brk => exact hs.elim
  | cont => exact hs.elim
  | ret u =>
    obtain ⟨v, σ', H', J, rv, hknown, q⟩ := hs
    generalize hX : cxOf CX P w K mg base N qual scope f cdv A outer s H E = X at J q
    have eN : X.N = N := by rw [← hX]; rfl
    have eP : X.prog = P := by rw [← hX]; rfl
    have ew : X.w = w := by rw [← hX]; rfl
    have es : X.s_0 = s := by rw [← hX]; rfl
    have eH : X.H_0 = H := by rw [← hX]; rfl
    have eex : X.ex = [] := by rw [← hX]; rfl
    have efn : ∀ y, X.fn y = true := fun y => by rw [← hX]; rfl
    have eenv : X.env.scope = scope := by rw [← hX]; rfl
    have ecl : X.env.cells = cellsFrom (s.heap.objs.size + 1) scope.names [] := by rw [← hX]; rfl
    have efs : X.fs = frs outer := by rw [← hX]; rfl
    have isCell : ∀ y c, X.env.cells.lookup y = some c → scope.names.lookup y = some .cell := fun y c e => by
      rw [ecl] at e
      have hm := PySem.mem_of_lookup e
      have e2 : s.heap.objs.size + 1 = (s.heap.push { cls := .type "dict", data := .dict #[] }).objs.size := (Heap.size_push ..).symm
      rw [e2] at hm
      rcases cells_mem hm with h | ⟨h1, _⟩
      · cases h
      · exact hcell _ h1
    have known : ∀ y c, X.env.cells.lookup y = some c → ∃ (i : Nat) (z : V), X.N[i]? = some y ∧ σ'[i]? = some (some z) := fun y c e => by rw [eN]; exact hknown y (isCell y c e)
    have nd : X.N.Nodup := by rw [eN]; exact S.nd
    -- what each cell holds
    have hold : ∀ (i : Nat) (y : Str) (c : Addr) (z : V), X.N[i]? = some y → X.env.cells.lookup y = some c → σ'[i]? = some (some z) → ∃ u, L2.RelV z u ∧ s'.heap.IsCell c (some u) := fun i y c z h1 h2 h3 => by
      obtain ⟨m, hn, hl⟩ := J.loc
      obtain ⟨u, ru, lk⟩ := hl i y z h1 h3 (.inr (.inl (by rw [eenv]; exact isCell y c h2)))
      rcases lk with ⟨k1, _⟩ | ⟨_, c', k2, k3⟩
      · have k1 : X.env.scope.names.lookup y = some .local := k1
        rw [eenv, isCell y c h2] at k1; cases k1
      · rw [h2] at k2
        have k2 := Option.some.inj k2
        subst k2
        exact ⟨u, ru, k3⟩
    have low : ∀ y c, X.env.cells.lookup y = some c → s.heap.objs.size ≤ c := fun y c e => by
      have := J.ok.cab y c (efn y) e
      rw [es] at this
      exact this
    obtain ⟨H1, hH1⟩ : ∃ H1 : Hp, (∀ b, (∀ y, X.env.cells.lookup y ≠ some b) → H1 b = H' b) ∧ (∀ (i : Nat) (y : Str) (c : Addr) (z : V), X.N[i]? = some y → X.env.cells.lookup y = some c → σ'[i]? = some (some z) → H1 c = some (CelO c z)) := by
      classical
      refine ⟨fun b => if h : ∃ z : V, ∃ (i : Nat) (y : Str), X.N[i]? = some y ∧ X.env.cells.lookup y = some b ∧ σ'[i]? = some (some z) then some (CelO b (Classical.choose h)) else H' b, fun b hb => ?_, fun i y c z h1 h2 h3 => ?_⟩
      · refine dif_neg fun ⟨z, i, y, _, h2, _⟩ => hb y h2
      · have h : ∃ z : V, ∃ (i : Nat) (y : Str), X.N[i]? = some y ∧ X.env.cells.lookup y = some c ∧ σ'[i]? = some (some z) := ⟨z, i, y, h1, h2, h3⟩
        show (if h : _ then _ else _) = _
        rw [dif_pos h]
        obtain ⟨i2, y2, k1, k2, k3⟩ := Classical.choose_spec h
        obtain rfl : y = y2 := J.ok.inj y y2 c h2 k2
        obtain rfl : i = i2 := nodup_ix nd h1 k1
        rw [h3] at k3
        have k3 := Option.some.inj (Option.some.inj k3)
        rw [← k3]
    have T : TrkAt X σ' H' H1 := ⟨hH1.1, J.freeC, hH1.2, known⟩
    have q := q H1 J.ok T
    have base := J.base
    rw [eex, eH, es, efs] at base
    have hok := J.hok
    rw [eP, ew] at hok
    have old : ∀ b o, s.heap.get? b = some o → H1 b = H' b := fun b o e => hH1.1 b fun y z => Nat.lt_irrefl _ (Nat.lt_of_lt_of_le (Heap.lt_size e) (low y b z))
    have pk : ∀ c o, H' c = some o → H1 c = some o := fun c o e => T.keep e
    refine ⟨v, H1, J.os.trans (by rw [es]), J.bare, ⟨base.keep, base.slot, fun b o e n hx => ?_, base.there, fun b xs e => pk _ _ (base.tups b xs e), fun b o xs e => pk _ _ (base.frzs b o xs e), fun b qs e => ?_⟩, fun b o e => ?_, rv, q⟩
    · rw [old b o e]; exact base.free b o e n hx
    · obtain ⟨more, z⟩ := base.tbls b qs e
      exact ⟨more, pk _ _ z⟩
    · by_cases h : ∃ y, X.env.cells.lookup y = some b
      · obtain ⟨y, z⟩ := h
        obtain ⟨i, x, h1, h2⟩ := known y b z
        rw [hH1.2 i y b x h1 z h2] at e
        have e := Option.some.inj e
        subst e
        obtain ⟨u', ru, ic⟩ := hold i y b x h1 z h2
        exact cel_ok ru ic
      · rw [hH1.1 b fun y z => h ⟨y, z⟩] at e
        exact (hok b o e).stay (fun _ _ _ q => q) (fun c q => pk _ _ q) fun c xs q => pk _ _ q
end Lx

namespace K2
open PySem PySem.Spec PyProof.Rows L2 LamX NdefX Lx
def topS (i : Nat) : Stmt := PySem.Challenge.pw_wraptime_k02_rules_looked_at.main.body.getD i (.Pass ⟨0, 0, 0, 0⟩)
/-- the built-in names that the law's helpers use are still the built-in ones -/
structure Bl (mg : Str → Option Value) : Prop where
  isi : mg "isinstance" = none
  tup : mg "tuple" = none
  lst : mg "list" = none
  len : mg "len" = none
  rng : mg "range" = none
  str : mg "str" = none
  bool : mg "bool" = none
  int : mg "int" = none

abbrev sStart : Stmt := topS 38
theorem scStart : FnScope ["_law_script", "_law_mixed", "_law_cell"] ["_law_script"] (defScope sStart) := ⟨rfl, rfl, rfl, by decide +kernel, rfl, by decide +kernel, by decide +kernel⟩
section
variable {P : Program} {w : World} {K : PySem.W.Frag} {mg : Str → Option Value} {base : Heap}
theorem ok_start {f : Addr} {fd : FuncData} {k : Nat} (F : Fun K "_law_start" "_law_start" sStart f fd) : FnOk P w K mg base CX0 (k + 1) f fd ["_law_script"] (spStart K) := by
  refine F.ok scStart (fun vs H Q E h => ?_) (fun cdv A outer s H vs Q E hr h => ?_)
  · obtain ⟨a, ns, rfl, _⟩ := h
    rfl
  · obtain ⟨a, ns, rfl, hS, q⟩ := h
    refine ⟨_, pss_cons (ps_set (i := 1) scStart.nd rfl (.inl rfl) pe_int)
      (pss_cons (ps_for PassesOwn.never rfl (pi_list (pv 0)) (pg_name (i := 2) scStart.nd rfl (.inl rfl))
        (pss_one (ps_set (i := 1) scStart.nd rfl (.inl rfl) (pe_op op_mod (pe_op op_add (pe_op op_add (pe_op op_mul (pv 1) pe_int) (pv 2)) pe_int) pe_int))))
      (pss_one (ps_ret (pe_lst (pa_cons (pv 0) (pa_cons pe_int (pa_cons (pv 1) (pa_cons pe_int pa_nil)))))))), ?_⟩
    refine ⟨.ref a, rfl, a, rfl, ⟨_, hS⟩, for_list (K := K) (a := a) (xs := ns.map V.int)
      (fun i σ H' => H' = H ∧ ∃ (m : Int) (y : Option V), σ = [some (.ref a), some (.int m), y] ∧ 0 ≤ m ∧ m < 2147483647)
      ⟨rfl, 1, none, rfl, by decide, by decide⟩ (fun i σ H' _ h => by rw [h.1]; exact hS) ?_ ?_⟩
    · rintro i y σ H' hi ⟨rfl, m, o, rfl, h1, h2⟩
      rw [List.getElem?_map] at hi
      cases e : ns[i]? with
      | none => rw [e] at hi; cases hi
      | some z =>
        rw [e] at hi
        have ey : y = V.int z := (Option.some.inj hi).symm
        subst ey
        refine ⟨.int m, rfl, m, 48271, rfl, rfl, .inl ⟨by omega, by omega⟩, .int z, rfl, _, _, rfl, rfl, _, _, rfl, rfl, _, _, rfl, rfl, by show (0 : Int) < 2147483647; decide, ?_⟩
        refine ⟨rfl, _, some (.int z), rfl, ?_, ?_⟩
        · exact Int.emod_nonneg _ (by decide)
        · exact Int.emod_lt_of_pos _ (by decide)
    · rintro σ H' ⟨rfl, m, o, rfl, h1, h2⟩
      refine ⟨.ref a, rfl, .int m, rfl, by show 4 ≤ sizeLine; decide, fun p hp => ?_⟩
      refine q p _ (fun b u e => by rw [upd_ne (ne_of_none e hp)]; exact e) hp ?_
      refine ⟨a, ns, 0, m, 0, upd_same, ?_, by omega, h1, h2, by omega⟩
      exact Same.seq (fun b u e => by rw [upd_ne (ne_of_none e hp)]; exact e) hS
end

abbrev sDrawn : Stmt := topS 39
theorem scDrawn : FnScope ["_law_state", "_law_many", "_law_found", "_law_cell"] ["_law_state", "_law_many"] (defScope sDrawn) := ⟨rfl, rfl, rfl, by decide +kernel, rfl, by decide +kernel, by decide +kernel⟩
section
variable {P : Program} {w : World} {K : PySem.W.Frag} {mg : Str → Option Value} {base : Heap}
theorem ok_drawn {f : Addr} {fd : FuncData} {k : Nat} (F : Fun K "_law_drawn" "_law_drawn" sDrawn f fd) (ml : mg "len" = none) : FnOk P w K mg base CX0 (k + 1) f fd ["_law_state", "_law_many"] (spDrawn K) := by
  refine F.ok scDrawn (fun vs H Q E h => ?_) (fun cdv A outer s H vs Q E hr h => ?_)
  · obtain ⟨S, many, rfl, _⟩ := h
    rfl
  · obtain ⟨S, many, rfl, ⟨a, ns, i, m, r, hS, hA, i0, m0, m1, r0⟩, n0, n1, q⟩ := h
    have nd := scDrawn.nd
    refine ⟨_, pss_cons (ps_if (pt_cmpR op_gt (pe_ix ix_list (pv 0) pe_int (fun _ _ => rfl)) pe_int (nomark _))
        (pss_cons (ps_set (i := 2) nd rfl (.inl rfl) (pe_op op_mod (pe_ix ix_list (pv 0) pe_int (fun _ _ => rfl)) (pv 1)))
        (pss_cons (ps_asg (pe_op op_fdivW (pe_ix ix_list (pv 0) pe_int (fun _ _ => rfl)) (pv 1)) (pg_sub (pv 0) pe_int set_list))
        (pss_one (ps_ret (pv 2))))) pss_nil)
      (pss_cons (ps_asg (pe_op op_add (pe_ix ix_list (pv 0) pe_int (fun _ _ => rfl)) pe_int) (pg_sub (pv 0) pe_int set_list))
      (pss_cons (ps_if (pt_cmpR op_le (pe_ix ix_list (pv 0) pe_int (fun _ _ => rfl)) (pe_callB call_len_seq (by rfl) ml PySem.boot_len (pa_cons (pe_ix ix_list (pv 0) pe_int (fun _ _ => rfl)) pa_nil)) (nomark _))
        (pss_cons (ps_set (i := 3) nd rfl (.inl rfl) (pe_ix ix_list (pe_ix ix_list (pv 0) pe_int (fun _ _ => rfl)) (pe_op op_sub (pe_ix ix_list (pv 0) pe_int (fun _ _ => rfl)) pe_int) (fun _ _ => rfl)))
        (pss_cons (ps_asg (pe_ifExp (pt_cmpR op_ge (pv 3) (pe_op op_pow pe_int pe_int) (nomark _)) (pe_op op_fdivW (pv 3) (pv 1)) pe_int) (pg_sub (pv 0) pe_int set_list))
        (pss_one (ps_ret (pe_op op_mod (pv 3) (pv 1)))))) pss_nil)
      (pss_cons (ps_asg (pe_op op_mod (pe_op op_add (pe_op op_mul (pe_ix ix_list (pv 0) pe_int (fun _ _ => rfl)) pe_int) pe_int) pe_int) (pg_sub (pv 0) pe_int set_list))
      (pss_one (ps_ret (pe_op op_mod (pe_op op_fdiv (pe_ix ix_list (pv 0) pe_int (fun _ _ => rfl)) pe_int) (pv 1))))))), ?_⟩
    have L0 : SqL K H S [.ref a, .int i, .int m, .int r] := SqL.of hS
    -- if state[3] > 0
    refine ⟨.ref S, rfl, S, _, 3, .int r, rfl, rfl, L0, rfl, _, _, rfl, rfl, _, rfl, ite2 (fun e => ?_) (fun e => ?_)⟩
    · have rp : 0 < r := of_decide_eq_true e
      refine ⟨.ref S, rfl, S, _, 3, .int r, rfl, rfl, L0, rfl, .int many, rfl, _, _, rfl, rfl, n0, ?_⟩
      refine ⟨.ref S, rfl, S, _, 3, .int r, rfl, rfl, L0, rfl, .int many, rfl, _, _, rfl, rfl, wide40 n0 n1, .ref S, rfl, S, _, 3, 3, rfl, rfl, hS, rfl, ?_⟩
      refine ⟨_, rfl, q _ _ (Int.emod_nonneg _ (by omega)) (Int.emod_lt_of_pos _ n0) (.self hS) ?_⟩
      exact StAt.put hS hA i0 m0 m1 (Int.ediv_nonneg r0 (by omega))
    · -- state[1] = state[1] + 1
      refine ⟨.ref S, rfl, S, _, 1, .int i, rfl, rfl, L0, rfl, _, _, rfl, rfl, .ref S, rfl, S, _, 1, 1, rfl, rfl, hS, rfl, ?_⟩
      generalize hH1 : upd H S (.lst (([V.ref a, V.int i, V.int m, V.int r]).set 1 (V.int (i + 1)))) = H1
      have b1 : But S H H1 := by rw [← hH1]; exact .self hS
      have hS1 : H1 S = some (.lst [.ref a, .int (i + 1), .int m, .int r]) := by rw [← hH1]; exact upd_same
      have hA1 : SqL K H1 a (ns.map V.int) := sqL_but b1 hA fun z => st_ne (K := K) hS z
      have L1 : SqL K H1 S [.ref a, .int (i + 1), .int m, .int r] := SqL.of hS1
      -- if state[1] <= len(state[0])
      refine ⟨.ref S, rfl, S, _, 1, .int (i + 1), rfl, rfl, L1, rfl, .ref S, rfl, S, _, 0, .ref a, rfl, rfl, L1, rfl, a, _, rfl, .inl hA1, _, _, rfl, rfl, _, rfl, ite2 (fun e => ?_) (fun e => ?_)⟩
      · have le : i + 1 ≤ ((ns.map V.int).length : Int) := of_decide_eq_true e
        rw [List.length_map] at le
        obtain ⟨j, rfl⟩ : ∃ j : Nat, i = j := ⟨i.toNat, by omega⟩
        have lt : j < ns.length := by omega
        have at_ : atI (ns.map V.int) ((j : Int) + 1 - 1) = some (.int ns[j]) := by
          rw [show (j : Int) + 1 - 1 = j by omega]
          exact atI_nat (by rw [List.getElem?_map, List.getElem?_eq_getElem lt]; rfl)
        refine ⟨.ref S, rfl, S, _, 0, .ref a, rfl, rfl, L1, rfl, .ref S, rfl, S, _, 1, .int ((j : Int) + 1), rfl, rfl, L1, rfl, _, _, rfl, rfl, a, _, _, .int ns[j], rfl, rfl, hA1, at_, ?_⟩
        -- state[3] = cell // many if cell >= 10 ** 18 else 0
        have fin : ∀ r' : Int, 0 ≤ r' → ∀ v : Int, 0 ≤ v → v < many → Q (.int v) (upd H1 S (.lst [.ref a, .int ((j : Int) + 1), .int m, .int r'])) := by
          intro r' h0 v h1 h2
          exact q v _ h1 h2 (b1.trans (.self hS1)) (StAt.put hS1 hA1 (by omega) m0 m1 h0)
        refine ⟨.int ns[j], rfl, 10, 18, rfl, rfl, ⟨by decide, by decide, by decide⟩, _, _, rfl, rfl, _, rfl, ite2 (fun e2 => ?_) (fun e2 => ?_)⟩
        · have ge : (10 : Int) ^ (18 : Int).toNat ≤ ns[j] := of_decide_eq_true e2
          have ge2 : (0 : Int) ≤ ns[j] := Int.le_trans (by decide) ge
          refine ⟨.int ns[j], rfl, .int many, rfl, _, _, rfl, rfl, wide40 n0 n1, .ref S, rfl, S, _, 3, 3, rfl, rfl, hS1, rfl, ?_⟩
          refine ⟨.int ns[j], rfl, .int many, rfl, _, _, rfl, rfl, n0, ?_⟩
          exact fin _ (Int.ediv_nonneg ge2 (by omega)) _ (Int.emod_nonneg _ (by omega)) (Int.emod_lt_of_pos _ n0)
        · refine ⟨.ref S, rfl, S, _, 3, 3, rfl, rfl, hS1, rfl, ?_⟩
          refine ⟨.int ns[j], rfl, .int many, rfl, _, _, rfl, rfl, n0, ?_⟩
          exact fin _ (Int.le_refl 0) _ (Int.emod_nonneg _ (by omega)) (Int.emod_lt_of_pos _ n0)
      · -- state[2] = ..
        refine ⟨.ref S, rfl, S, _, 2, .int m, rfl, rfl, L1, rfl, _, _, rfl, rfl, .inl ⟨by omega, by omega⟩, _, _, rfl, rfl, _, _, rfl, rfl, by show (0 : Int) < 2147483647; decide, .ref S, rfl, S, _, 2, 2, rfl, rfl, hS1, rfl, ?_⟩
        have hS2 : ∀ z : Int, upd H1 S (.lst (([V.ref a, V.int (i + 1), V.int m, V.int r]).set 2 (V.int z))) S = some (.lst [.ref a, .int (i + 1), .int z, .int r]) := fun _ => upd_same
        refine ⟨.ref S, rfl, S, _, 2, .int ((m * 48271 + 11) % 2147483647), rfl, rfl, SqL.of (hS2 _), rfl, _, _, rfl, rfl, ⟨by decide, by decide⟩, .int many, rfl, _, _, rfl, rfl, n0, ?_⟩
        refine q _ _ (Int.emod_nonneg _ (by omega)) (Int.emod_lt_of_pos _ n0) (b1.trans (.self hS1)) ?_
        exact StAt.put hS1 hA1 (by omega) (Int.emod_nonneg _ (by decide)) (Int.emod_lt_of_pos _ (by decide)) r0
end

abbrev sFar : Stmt := topS 42
theorem scFar : FnScope ["_law_state", "_law_least", "_law_most", "_law_far_here"] ["_law_state", "_law_least", "_law_most"] (defScope sFar) := ⟨rfl, rfl, rfl, by decide +kernel, rfl, by decide +kernel, by decide +kernel⟩
section
variable {P : Program} {w : World} {K : PySem.W.Frag} {mg : Str → Option Value} {base : Heap}
theorem ok_far {f : Addr} {fd : FuncData} {k j : Nat} (F : Fun K "_law_far" "_law_far" sFar f fd) (D : Kn P w K mg base CX0 j "_law_drawn" ["_law_state", "_law_many"] (spDrawn K)) (hj : j ≤ k) :
    FnOk P w K mg base CX0 (k + 1) f fd ["_law_state", "_law_least", "_law_most"] (spFar K) := by
  refine F.ok scFar (fun vs H Q E h => ?_) (fun cdv A outer s H vs Q E hr h => ?_)
  · obtain ⟨S, a, b, rfl, _⟩ := h
    rfl
  · obtain ⟨S, a, b, rfl, st, a0, a1, b0, b1, q⟩ := h
    refine ⟨_, pss_cons (ps_set (i := 3) scFar.nd rfl (.inl rfl) (pe_ix ix_list (pe_lst (pa_cons pe_int (pa_cons pe_int (pa_cons (pe_op op_pow pe_int pe_int) pa_nil)))) (pe_kn D hr hj (pa_cons (pv 0) (pa_cons pe_int pa_nil)) rfl) (fun _ _ => rfl)))
      (pss_one (ps_ret (pe_ix ix_list (pe_lst (pa_cons (pe_op op_sub (pe_op op_sub (pv 1) pe_int) (pe_kn D hr hj (pa_cons (pv 0) (pa_cons (pv 3) pa_nil)) rfl))
        (pa_cons (pe_op op_add (pe_op op_add (pv 2) pe_int) (pe_kn D hr hj (pa_cons (pv 0) (pa_cons (pv 3) pa_nil)) rfl)) pa_nil))) (pe_kn D hr hj (pa_cons (pv 0) (pa_cons pe_int pa_nil)) rfl) (fun _ _ => rfl)))), ?_⟩
    refine ⟨10, 29, rfl, rfl, ⟨by decide, by decide, by decide⟩, by show 3 ≤ sizeLine; decide, fun p hp => ?_⟩
    refine ⟨.ref S, rfl, S, 3, rfl, st.new hp, by decide, by decide, fun v H1 v0 v1 bt st1 => ?_⟩
    obtain ⟨x, ex, hx⟩ := pick3 (a := V.int 1) (b := V.int 20) (c := V.int ((10 : Int) ^ (29 : Int).toNat)) v0 v1
    obtain ⟨z, rfl, z0, z1⟩ : ∃ z : Int, x = .int z ∧ 0 < z ∧ z ≤ 100000000000000000000000000000 := by
      rcases hx with rfl | rfl | rfl
      · exact ⟨_, rfl, by decide, by decide⟩
      · exact ⟨_, rfl, by decide, by decide⟩
      · exact ⟨_, rfl, by decide, by decide⟩
    have pS : p ≠ S := st.nn hp
    refine ⟨p, _, v, _, rfl, rfl, SqL.of (bt _ _ pS upd_same), ex, ?_⟩
    have b1' : But S H H1 := (But.new hp).trans bt
    -- least - 1 - drawn, most + 1 + drawn
    refine ⟨.int a, rfl, _, _, rfl, rfl, .ref S, rfl, .int z, rfl, S, z, rfl, st1, z0, by omega, fun d1 H2 d10 d11 bt2 st2 => ?_⟩
    refine ⟨_, _, rfl, rfl, .int b, rfl, _, _, rfl, rfl, .ref S, rfl, .int z, rfl, S, z, rfl, st2, z0, by omega, fun d2 H3 d20 d21 bt3 st3 => ?_⟩
    refine ⟨_, _, rfl, rfl, by show 2 ≤ sizeLine; decide, fun p2 hp2 => ?_⟩
    refine ⟨.ref S, rfl, S, 2, rfl, st3.new hp2, by decide, by decide, fun v2 H4 v20 v21 bt4 st4 => ?_⟩
    obtain ⟨y, ey, hy⟩ := pick2 (a := V.int (a - 1 - d1)) (b := V.int (b + 1 + d2)) v20 v21
    have b4 : But S H H4 := ((b1'.trans bt2).trans bt3).trans ((But.new hp2).trans bt4)
    have pS2 : p2 ≠ S := st3.nn hp2
    refine ⟨p2, _, v2, y, rfl, rfl, SqL.of (bt4 _ _ pS2 upd_same), ey, ?_⟩
    rcases hy with rfl | rfl
    · exact q _ _ (.inl (by omega)) ⟨by omega, by omega⟩ b4 st4
    · exact q _ _ (.inr (by omega)) ⟨by omega, by omega⟩ b4 st4
end

abbrev sWheel : Stmt := topS 43
theorem scWheel : FnScope ["_law_state", "_law_wide"] ["_law_state"] (defScope sWheel) := ⟨rfl, rfl, rfl, by decide +kernel, rfl, by decide +kernel, by decide +kernel⟩
section
variable {P : Program} {w : World} {K : PySem.W.Frag} {mg : Str → Option Value} {base : Heap}
theorem ok_wheel {f : Addr} {fd : FuncData} {k j : Nat} (F : Fun K "_law_wheel" "_law_wheel" sWheel f fd) (D : Kn P w K mg base CX0 j "_law_drawn" ["_law_state", "_law_many"] (spDrawn K)) (hj : j ≤ k) :
    FnOk P w K mg base CX0 (k + 1) f fd ["_law_state"] (spWheel K) := by
  refine F.ok scWheel (fun vs H Q E h => ?_) (fun cdv A outer s H vs Q E hr h => ?_)
  · obtain ⟨S, rfl, _⟩ := h
    rfl
  · obtain ⟨S, rfl, st, q⟩ := h
    refine ⟨_, pss_cons (ps_set (i := 1) scWheel.nd rfl (.inl rfl) (pe_ix ix_list (pe_lst (pa_cons pe_int (pa_cons pe_int (pa_cons (pe_op op_sub (pe_op op_pow pe_int pe_int) pe_int) pa_nil)))) (pe_kn D hr hj (pa_cons (pv 0) (pa_cons pe_int pa_nil)) rfl) (fun _ _ => rfl)))
      (pss_cons (ps_if (pt_cmpR op_eq (pe_kn D hr hj (pa_cons (pv 0) (pa_cons pe_int pa_nil)) rfl) pe_int (nomark _))
        (pss_one (ps_ret (pe_ix ix_list (pe_lst (pa_cons pe_int (pa_cons pe_int (pa_cons pe_int (pa_cons pe_int (pa_cons pe_int (pa_cons (pe_op op_pow pe_int pe_int) (pa_cons (pe_op op_pow pe_int pe_int) (pa_cons (pe_op op_pow pe_int pe_int) pa_nil)))))))))
          (pe_kn D hr hj (pa_cons (pv 0) (pa_cons pe_int pa_nil)) rfl) (fun _ _ => rfl)))) pss_nil)
      (pss_one (ps_ret (pe_op op_add pe_int (pe_kn D hr hj (pa_cons (pv 0) (pa_cons (pv 1) pa_nil)) rfl))))), ?_⟩
    refine ⟨_, _, rfl, rfl, ⟨by decide, by decide, by decide⟩, _, _, rfl, rfl, by show 3 ≤ sizeLine; decide, fun p hp => ?_⟩
    refine ⟨.ref S, rfl, S, 3, rfl, st.new hp, by decide, by decide, fun v H1 v0 v1 bt st1 => ?_⟩
    obtain ⟨x, ex, hx⟩ := pick3 (a := V.int 6) (b := V.int 60) (c := V.int ((10 : Int) ^ (12 : Int).toNat - 1)) v0 v1
    obtain ⟨z, rfl, z0, z1⟩ : ∃ z : Int, x = .int z ∧ 0 < z ∧ z ≤ 999999999999 := by
      rcases hx with rfl | rfl | rfl
      · exact ⟨_, rfl, by decide, by decide⟩
      · exact ⟨_, rfl, by decide, by decide⟩
      · exact ⟨_, rfl, by decide, by decide⟩
    refine ⟨p, _, v, _, rfl, rfl, SqL.of (bt _ _ (st.nn hp) upd_same), ex, ?_⟩
    have b1 : But S H H1 := (But.new hp).trans bt
    refine ⟨.ref S, rfl, S, 4, rfl, st1, by decide, by decide, fun d H2 _ _ bt2 st2 => ?_⟩
    refine ⟨rfl, _, rfl, ite2 (fun _ => ?_) (fun _ => ?_)⟩
    · refine ⟨_, _, rfl, rfl, ⟨by decide, by decide, by decide⟩, _, _, rfl, rfl, ⟨by decide, by decide, by decide⟩, _, _, rfl, rfl, ⟨by decide, by decide, by decide⟩, by show 8 ≤ sizeLine; decide, fun p2 hp2 => ?_⟩
      refine ⟨.ref S, rfl, S, 8, rfl, st2.new hp2, by decide, by decide, fun v2 H3 v20 v21 bt3 st3 => ?_⟩
      obtain ⟨y, ey, hy⟩ := pick (xs := [V.int 2, V.int 4, V.int 8, V.int 64, V.int 256, V.int ((2 : Int) ^ (16 : Int).toNat), V.int ((2 : Int) ^ (32 : Int).toNat), V.int ((2 : Int) ^ (39 : Int).toNat)]) v20 (by simpa using v21)
      obtain ⟨n, rfl, hn⟩ : ∃ n : Int, y = .int n ∧ Wh n := by
        simp only [List.mem_cons, List.not_mem_nil, or_false] at hy
        rcases hy with rfl | rfl | rfl | rfl | rfl | rfl | rfl | rfl <;> exact ⟨_, rfl, by decide, by decide⟩
      exact ⟨p2, _, v2, _, rfl, rfl, SqL.of (bt3 _ _ (st2.nn hp2) upd_same), ey, q _ _ hn ((b1.trans bt2).trans ((But.new hp2).trans bt3)) st3⟩
    · refine ⟨.ref S, rfl, .int z, rfl, S, z, rfl, st2, z0, by omega, fun d2 H3 d20 d21 bt3 st3 => ?_⟩
      exact ⟨_, _, rfl, rfl, q _ _ ⟨by omega, by omega⟩ ((b1.trans bt2).trans bt3) st3⟩
end

abbrev sTime : Stmt := topS 45
theorem scTime : FnScope ["_law_state", "_law_far_here"] ["_law_state"] (defScope sTime) := ⟨rfl, rfl, rfl, by decide +kernel, rfl, by decide +kernel, by decide +kernel⟩
section
variable {P : Program} {w : World} {K : PySem.W.Frag} {mg : Str → Option Value} {base : Heap}
theorem ok_time {f : Addr} {fd : FuncData} {k j : Nat} (F : Fun K "_law_time" "_law_time" sTime f fd) (D : Kn P w K mg base CX0 j "_law_drawn" ["_law_state", "_law_many"] (spDrawn K)) (hj : j ≤ k) :
    FnOk P w K mg base CX0 (k + 1) f fd ["_law_state"] (spTime K) := by
  refine F.ok scTime (fun vs H Q E h => ?_) (fun cdv A outer s H vs Q E hr h => ?_)
  · obtain ⟨S, rfl, _⟩ := h
    rfl
  · obtain ⟨S, rfl, st, q⟩ := h
    refine ⟨_, pss_cons (ps_set (i := 1) scTime.nd rfl (.inl rfl) (pe_ix ix_list (pe_lst (pa_cons pe_int (pa_cons (pe_op op_pow pe_int pe_int) (pa_cons (pe_op op_pow pe_int pe_int) pa_nil)))) (pe_kn D hr hj (pa_cons (pv 0) (pa_cons pe_int pa_nil)) rfl) (fun _ _ => rfl)))
      (pss_one (ps_ret (pe_op op_sub (pe_kn D hr hj (pa_cons (pv 0) (pa_cons (pv 1) pa_nil)) rfl) (pe_op op_mul (pe_kn D hr hj (pa_cons (pv 0) (pa_cons pe_int pa_nil)) rfl) (pv 1))))), ?_⟩
    refine ⟨_, _, rfl, rfl, ⟨by decide, by decide, by decide⟩, _, _, rfl, rfl, ⟨by decide, by decide, by decide⟩, by show 3 ≤ sizeLine; decide, fun p hp => ?_⟩
    refine ⟨.ref S, rfl, S, 3, rfl, st.new hp, by decide, by decide, fun v H1 v0 v1 bt st1 => ?_⟩
    obtain ⟨x, ex, hx⟩ := pick3 (a := V.int 100) (b := V.int ((10 : Int) ^ (6 : Int).toNat)) (c := V.int ((10 : Int) ^ (30 : Int).toNat)) v0 v1
    obtain ⟨z, rfl, z0, z1⟩ : ∃ z : Int, x = .int z ∧ 0 < z ∧ z ≤ 1000000000000000000000000000000 := by
      rcases hx with rfl | rfl | rfl
      · exact ⟨_, rfl, by decide, by decide⟩
      · exact ⟨_, rfl, by decide, by decide⟩
      · exact ⟨_, rfl, by decide, by decide⟩
    refine ⟨p, _, v, _, rfl, rfl, SqL.of (bt _ _ (st.nn hp) upd_same), ex, ?_⟩
    have b1 : But S H H1 := (But.new hp).trans bt
    refine ⟨.ref S, rfl, .int z, rfl, S, z, rfl, st1, z0, by omega, fun d1 H2 d10 d11 bt2 st2 => ?_⟩
    refine ⟨.ref S, rfl, S, 2, rfl, st2, by decide, by decide, fun d2 H3 d20 d21 bt3 st3 => ?_⟩
    refine ⟨.int z, rfl, d2, z, rfl, rfl, .inl ⟨by omega, by omega⟩, _, _, rfl, rfl, ?_⟩
    refine q _ _ ?_ ((b1.trans bt2).trans bt3) st3
    have : d2 = 0 ∨ d2 = 1 := by omega
    rcases this with rfl | rfl
    · exact ⟨by omega, by omega⟩
    · exact ⟨by omega, by omega⟩
end

abbrev sIsWheel : Stmt := topS 15
theorem scIsWheel : FnScope ["number"] ["number"] (defScope sIsWheel) := ⟨rfl, rfl, rfl, by decide +kernel, rfl, by decide +kernel, by decide +kernel⟩
section
variable {P : Program} {w : World} {K : PySem.W.Frag} {mg : Str → Option Value} {base : Heap}
theorem ok_isWheel {f : Addr} {fd : FuncData} {k : Nat} {t1 t2 : Tok} (F : Fun K "is_wheel" "is_wheel" sIsWheel f fd) (g1 : mg "LEAST_WHEEL" = some (.int 2 t1)) (g2 : mg "MOST_WHEEL" = some (.int 1000000000000 t2)) :
    FnOk P w K mg base CX0 (k + 1) f fd ["number"] spIsWheel := by
  refine F.ok scIsWheel (fun vs H Q E h => ?_) (fun cdv A outer s H vs Q E hr h => ?_)
  · obtain ⟨n, rfl, _⟩ := h
    rfl
  · obtain ⟨n, rfl, q⟩ := h
    refine ⟨_, pss_one (ps_ret (pe_chain op_le op_le (pe_glob (v := .int 2) rfl g1 ⟨_, rfl⟩) (pv 0) (pe_glob (v := .int 1000000000000) rfl g2 ⟨_, rfl⟩))), ?_⟩
    refine ⟨_, rfl, _, _, rfl, rfl, _, rfl, ite2 (fun e => ?_) (fun e => ?_)⟩
    · have h1 : 2 ≤ n := of_decide_eq_true e
      refine ⟨_, _, rfl, rfl, ?_⟩
      rw [show decide (Wh n) = decide (n ≤ 1000000000000) from decide_eq_decide.mpr ⟨fun z => z.2, fun z => ⟨h1, z⟩⟩] at q
      exact q
    · have h1 : ¬ 2 ≤ n := fun z => e (decide_eq_true z)
      rw [show decide (Wh n) = false from decide_eq_false fun z => h1 z.1] at q
      exact q
end

abbrev sCheckWheel : Stmt := topS 16
theorem scCheckWheel : FnScope ["wheel"] ["wheel"] (defScope sCheckWheel) := ⟨rfl, rfl, rfl, by decide +kernel, rfl, by decide +kernel, by decide +kernel⟩
section
variable {P : Program} {w : World} {K : PySem.W.Frag} {mg : Str → Option Value} {base : Heap}
theorem ok_checkWheel {f CW : Addr} {fd : FuncData} {k j : Nat} (F : Fun K "check_wheel" "check_wheel" sCheckWheel f fd) (D : Kn P w K mg base CX0 j "is_wheel" ["number"] spIsWheel) (hj : j ≤ k)
    (T : Rf K mg "BadWheel" CW) : FnOk P w K mg base (L2.CX P w) (k + 1) f fd ["wheel"] (spCheckWheel CW) := by
  refine F.okX scCheckWheel (fun vs H Q E h => ?_) (fun cdv A outer s H vs Q E hr h => ?_)
  · obtain ⟨n, rfl, _⟩ := h
    rfl
  · obtain ⟨n, rfl, sm, q1, q2⟩ := h
    refine ⟨_, pss_one (ps_if (pt_not (pt_val (pe_kn D hr hj (pa_cons (pv 0) pa_nil) rfl)))
      (pss_one (ps_rf rfl T (takes_of rfl rfl rfl rfl) rfl (pe_joined (.cons pe_str (.cons (pe_fmt (pv 0)) .nil))))) pss_nil), ?_⟩
    refine ⟨_, rfl, n, rfl, _, rfl, ite2 (fun e => ?_) (fun e => ?_)⟩
    · have h1 : ¬ Wh n := by simpa using e
      exact tJs2 (i := 0) rfl (by decide +kernel) sm fun _ => q2 h1
    · have h1 : Wh n := by simpa using e
      exact q1 h1
end

abbrev sCheckSeen : Stmt := topS 17
theorem scCheckSeen : FnScope ["wheel", "seen"] ["wheel", "seen"] (defScope sCheckSeen) := ⟨rfl, rfl, rfl, by decide +kernel, rfl, by decide +kernel, by decide +kernel⟩
section
variable {P : Program} {w : World} {K : PySem.W.Frag} {mg : Str → Option Value} {base : Heap}
theorem ok_checkSeen {f CS : Addr} {fd : FuncData} {k : Nat} (F : Fun K "check_seen" "check_seen" sCheckSeen f fd) (T : Rf K mg "BadSeen" CS) : FnOk P w K mg base (L2.CX P w) (k + 1) f fd ["wheel", "seen"] (spCheckSeen CS) := by
  refine F.okX scCheckSeen (fun vs H Q E h => ?_) (fun cdv A outer s H vs Q E hr h => ?_)
  · obtain ⟨n, s, rfl, _⟩ := h
    rfl
  · obtain ⟨n, s, rfl, sm, sm2, q1, q2⟩ := h
    refine ⟨_, pss_one (ps_if (pt_not (pt_chain op_le op_lt pe_int (pv 1) (pv 0)))
      (pss_one (ps_rf rfl T (takes_of rfl rfl rfl rfl) rfl (pe_joined (.cons pe_str (.cons (pe_fmt (pv 0)) (.cons pe_str (.cons (pe_fmt (pv 1)) .nil))))))) pss_nil), ?_⟩
    have bad : ¬ Sn n s → _ := fun h1 => tJs4 (i := 0) (j := 1) (a := "the wheel ") (b := " doesn't show ") (σ := start ["wheel", "seen"] [.int n, .int s]) (H := H) (Q := fun _ H1 => E (.ref CS) none H1) rfl rfl (by decide +kernel) (by decide +kernel) sm sm2 fun _ => q2 h1
    refine ⟨_, rfl, _, _, rfl, rfl, _, rfl, ite2 (fun e => ?_) (fun e => ?_)⟩
    · have h1 : 0 ≤ s := of_decide_eq_true e
      refine ⟨_, rfl, _, _, rfl, rfl, _, rfl, ite2 (fun e2 => ?_) (fun e2 => ?_)⟩
      · exact bad fun z => by
          have h2 : ¬ s < n := by simpa using e2
          exact h2 z.2
      · have h2 : s < n := by simpa using e2
        exact q1 ⟨h1, h2⟩
    · refine ⟨_, rfl, iteT ?_⟩
      exact bad fun z => e (decide_eq_true z.1)
end


end K2

namespace K2
open PySem PySem.Spec PyProof.Rows L2 LamX NdefX Lx
abbrev sSame : Stmt := topS 40
theorem scSame : FnScope ["_law_found", "_law_due", "_law_k"] ["_law_found", "_law_due"] (defScope sSame) := ⟨rfl, rfl, rfl, by decide +kernel, rfl, by decide +kernel, by decide +kernel⟩
section
variable {P : Program} {w : World} {K : PySem.W.Frag} {mg : Str → Option Value} {base : Heap}
theorem ok_same {f : Addr} {fd : FuncData} {k j : Nat} {sp : Sp} (F : Fun K "_law_same" "_law_same" sSame f fd) (B : Bl mg) (D : Kn P w K mg base CX0 j "_law_same" ["_law_found", "_law_due"] sp) (hj : j ≤ k) :
    FnOk P w K mg base CX0 (k + 1) f fd ["_law_found", "_law_due"] (spSame sp) := by
  refine F.ok scSame (fun vs H Q E h => ?_) (fun cdv A outer s H vs Q E hr h => ?_)
  · obtain ⟨x, y, rfl, _⟩ := h
    rfl
  · obtain ⟨x, y, rfl, q, h⟩ := h
    have nd := scSame.nd
    refine ⟨_, pss_cons (ps_if (pt_val (pe_callB call_isiT (by rfl) B.isi (by decide +kernel) (pa_cons (pv 1) (pa_cons (pe_tup (pa_cons (pe_bltn (v := .ty "tuple") (by rfl) B.tup (by decide +kernel) rfl) (pa_cons (pe_bltn (v := .ty "list") (by rfl) B.lst (by decide +kernel) rfl) pa_nil))) pa_nil))))
        (pss_cons (ps_if (PW.pt (pw_or (pt_not (pt_val (pe_callB call_isiT (by rfl) B.isi (by decide +kernel) (pa_cons (pv 0) (pa_cons (pe_tup (pa_cons (pe_bltn (v := .ty "tuple") (by rfl) B.tup (by decide +kernel) rfl) (pa_cons (pe_bltn (v := .ty "list") (by rfl) B.lst (by decide +kernel) rfl) pa_nil))) pa_nil)))))
            (pw_or1 (pt_cmpR op_ne (pe_callB call_isi (by rfl) B.isi (by decide +kernel) (pa_cons (pv 0) (pa_cons (pe_bltn (v := .ty "list") (by rfl) B.lst (by decide +kernel) rfl) pa_nil)))
              (pe_callB call_isi (by rfl) B.isi (by decide +kernel) (pa_cons (pv 1) (pa_cons (pe_bltn (v := .ty "list") (by rfl) B.lst (by decide +kernel) rfl) pa_nil))) (nomark _)))))
          (pss_one (ps_ret pe_bl)) pss_nil)
        (pss_cons (ps_if (pt_cmpR op_ne (pe_callB call_len_seq (by rfl) B.len PySem.boot_len (pa_cons (pv 0) pa_nil)) (pe_callB call_len_seq (by rfl) B.len PySem.boot_len (pa_cons (pv 1) pa_nil)) (nomark _))
          (pss_one (ps_ret pe_bl)) pss_nil)
        (pss_one (ps_ret (pe_cmpR (op_eqD hr.units) (pe_lc (own := [("_law_k", 2)]) (g := gName 2) (by rfl) nd
          (pi_range1 (by rfl) B.rng (pa_cons (pe_callB call_len_seq (by rfl) B.len PySem.boot_len (pa_cons (pv 1) pa_nil)) pa_nil))
          (blkOk_by (own := [("_law_k", 2)]) (N := ["_law_found", "_law_due", "_law_k"]) (sc := defScope sSame) (by decide +kernel))
          (fun _ _ _ _ _ => pg_name (i := 2) nd rfl (.inl rfl))
          (fun _ _ _ _ _ => pts_one (pt_not (pt_val (pe_kn D hr hj (pa_cons (pe_ix (r := rIx K) ix_seq (pv 0) (pv 2) (fun _ _ => rfl)) (pa_cons (pe_ix (r := rIx K) ix_seq (pv 1) (pv 2) (fun _ _ => rfl)) pa_nil)) rfl))))
          (fun _ _ _ _ _ => pv 2)) (pe_lst pa_nil) (nomark _)))))) pss_nil)
      (pss_cons (ps_if (pt_cmpR op_isN (pv 1) pe_non (nomark _)) (pss_one (ps_ret (pe_cmpR op_isN (pv 0) pe_non (nomark _)))) pss_nil)
      (pss_cons (ps_if (pt_val (pe_callB call_isi (by rfl) B.isi (by decide +kernel) (pa_cons (pv 1) (pa_cons (pe_bltn (v := .ty "str") (by rfl) B.str (by decide +kernel) rfl) pa_nil))))
        (pss_one (ps_ret (pe_and (pe_callB call_isi (by rfl) B.isi (by decide +kernel) (pa_cons (pv 0) (pa_cons (pe_bltn (v := .ty "str") (by rfl) B.str (by decide +kernel) rfl) pa_nil))) (pe_one (pe_cmpR op_eq (pv 0) (pv 1) (nomark _)))))) pss_nil)
      (pss_cons (ps_if (PW.pt (pw_or (pt_val (pe_callB call_isi (by rfl) B.isi (by decide +kernel) (pa_cons (pv 1) (pa_cons (pe_bltn (v := .ty "bool") (by rfl) B.bool (by decide +kernel) rfl) pa_nil))))
          (pw_or1 (pt_val (pe_callB call_isi (by rfl) B.isi (by decide +kernel) (pa_cons (pv 0) (pa_cons (pe_bltn (v := .ty "bool") (by rfl) B.bool (by decide +kernel) rfl) pa_nil)))))))
        (pss_one (ps_ret (pe_and (pe_callB call_isi (by rfl) B.isi (by decide +kernel) (pa_cons (pv 1) (pa_cons (pe_bltn (v := .ty "bool") (by rfl) B.bool (by decide +kernel) rfl) pa_nil)))
          (pe_and (pe_callB call_isi (by rfl) B.isi (by decide +kernel) (pa_cons (pv 0) (pa_cons (pe_bltn (v := .ty "bool") (by rfl) B.bool (by decide +kernel) rfl) pa_nil))) (pe_one (pe_cmpR op_eq (pv 0) (pv 1) (nomark _))))))) pss_nil)
      (pss_one (ps_ret (pe_and (pe_callB call_isi (by rfl) B.isi (by decide +kernel) (pa_cons (pv 0) (pa_cons (pe_bltn (v := .ty "int") (by rfl) B.int (by decide +kernel) rfl) pa_nil))) (pe_one (pe_cmpR op_eq (pv 0) (pv 1) (nomark _))))))))), ?_⟩
    rcases h with ⟨rfl, hf⟩ | ⟨b, a, c, xs, ys, rfl, rfl, hx, hy, hl, hz, it⟩
    · -- flat
      refine ⟨x, rfl, by show 2 ≤ sizeLine; decide, fun p hp => ?_⟩
      have fin := q _ (same_new (o := .tup [.ty "tuple", .ty "list"]) hp)
      cases x with
      | non =>
        refine ⟨.non, p, _, .type "NoneType", _, false, rfl, upd_same, .cons (.ty "tuple") (.cons (.ty "list") .nil), .base .non, any_no (by decide +kernel) (by decide +kernel), _, rfl, iteF ?_⟩
        exact ⟨_, rfl, rfl, _, rfl, ite2 (fun _ => ⟨_, rfl, rfl, fin⟩) (fun z => absurd rfl z)⟩
      | bl t =>
        refine ⟨.bl t, p, _, .type "bool", _, false, rfl, upd_same, .cons (.ty "tuple") (.cons (.ty "list") .nil), .base (.bl t), any_no (by decide +kernel) (by decide +kernel), _, rfl, iteF ?_⟩
        refine ⟨_, rfl, rfl, _, rfl, ite2 (fun z => absurd z (by simp)) (fun _ => ?_)⟩
        refine ⟨_, rfl, .bl t, .ty "str", .type "bool", .type "str", false, rfl, .ty "str", .base (.bl t), kit_ty (by decide +kernel), _, rfl, iteF ?_⟩
        refine ⟨_, rfl, .bl t, .ty "bool", .type "bool", .type "bool", true, rfl, .ty "bool", .base (.bl t), kit_ty (by decide +kernel), _, rfl, iteT (iteT ?_)⟩
        refine ⟨_, rfl, .bl t, .ty "bool", .type "bool", .type "bool", true, rfl, .ty "bool", .base (.bl t), kit_ty (by decide +kernel), _, rfl, iteT ?_⟩
        refine ⟨_, rfl, .bl t, .ty "bool", .type "bool", .type "bool", true, rfl, .ty "bool", .base (.bl t), kit_ty (by decide +kernel), _, rfl, iteT ?_⟩
        refine ⟨_, rfl, _, rfl, rfl, ?_⟩
        rw [decide_eq_true rfl]
        exact fin
      | int t =>
        refine ⟨.int t, p, _, .type "int", _, false, rfl, upd_same, .cons (.ty "tuple") (.cons (.ty "list") .nil), .base (.int t), any_no (by decide +kernel) (by decide +kernel), _, rfl, iteF ?_⟩
        refine ⟨_, rfl, rfl, _, rfl, ite2 (fun z => absurd z (by simp)) (fun _ => ?_)⟩
        refine ⟨_, rfl, .int t, .ty "str", .type "int", .type "str", false, rfl, .ty "str", .base (.int t), kit_ty (by decide +kernel), _, rfl, iteF ?_⟩
        refine ⟨_, rfl, .int t, .ty "bool", .type "int", .type "bool", false, rfl, .ty "bool", .base (.int t), kit_ty (by decide +kernel), _, rfl, iteF ?_⟩
        refine ⟨_, rfl, .int t, .ty "bool", .type "int", .type "bool", false, rfl, .ty "bool", .base (.int t), kit_ty (by decide +kernel), _, rfl, iteF ?_⟩
        refine ⟨_, rfl, .int t, .ty "int", .type "int", .type "int", true, rfl, .ty "int", .base (.int t), kit_ty (by decide +kernel), _, rfl, iteT ?_⟩
        refine ⟨_, rfl, _, rfl, rfl, ?_⟩
        rw [decide_eq_true rfl]
        exact fin
      | str t =>
        refine ⟨.str t, p, _, .type "str", _, false, rfl, upd_same, .cons (.ty "tuple") (.cons (.ty "list") .nil), .base (.str t), any_no (by decide +kernel) (by decide +kernel), _, rfl, iteF ?_⟩
        refine ⟨_, rfl, rfl, _, rfl, ite2 (fun z => absurd z (by simp)) (fun _ => ?_)⟩
        refine ⟨_, rfl, .str t, .ty "str", .type "str", .type "str", true, rfl, .ty "str", .base (.str t), kit_ty (by decide +kernel), _, rfl, iteT ?_⟩
        refine ⟨_, rfl, .str t, .ty "str", .type "str", .type "str", true, rfl, .ty "str", .base (.str t), kit_ty (by decide +kernel), _, rfl, iteT ?_⟩
        refine ⟨_, rfl, _, rfl, rfl, ?_⟩
        rw [decide_eq_true rfl]
        exact fin
      | byt _ => cases hf
      | flt _ => cases hf
      | ref _ => cases hf
      | ty _ => cases hf
    · -- lists, tuples
      refine ⟨_, rfl, by show 2 ≤ sizeLine; decide, fun p hp => ?_⟩
      have s1 := same_new (o := .tup [.ty "tuple", .ty "list"]) hp
      refine ⟨.ref c, p, _, .type (kn b), _, true, rfl, upd_same, .cons (.ty "tuple") (.cons (.ty "list") .nil), mk_ty (s1 _ _ hy), mk_any, _, rfl, iteT ?_⟩
      refine ⟨_, rfl, by show 2 ≤ sizeLine; decide, fun p2 hp2 => ?_⟩
      have s2 := same_new (o := .tup [.ty "tuple", .ty "list"]) hp2
      generalize hH2 : upd (upd H p (.tup [.ty "tuple", .ty "list"])) p2 (.tup [.ty "tuple", .ty "list"]) = H2 at s2
      have s12 := s1.trans s2
      have hx2 := s12 _ _ hx
      have hy2 := s12 _ _ hy
      refine ⟨.ref a, p2, _, .type (kn b), _, true, rfl, (by rw [← hH2]; exact upd_same), .cons (.ty "tuple") (.cons (.ty "list") .nil), mk_ty hx2, mk_any, _, rfl, iteF ?_⟩
      refine ⟨_, rfl, .ref a, .ty "list", .type (kn b), .type "list", b, rfl, .ty "list", mk_ty hx2, mk_one, _, rfl, .ref c, .ty "list", .type (kn b), .type "list", b, rfl, .ty "list", mk_ty hy2, mk_one, rfl, _, rfl, ?_⟩
      refine iteNS rfl ?_
      refine ⟨_, rfl, a, xs, rfl, mk_sq hx2, _, rfl, c, ys, rfl, mk_sq hy2, rfl, _, rfl, iteNS (by rw [hl]) ?_⟩
      refine ⟨_, rfl, c, ys, rfl, mk_sq hy2, (ys.length : Int), rfl, by omega, by omega, fun D hD => ?_⟩
      refine lc_range (lo := 0) (n := ys.length) (fun i H' => Same H2 H' ∧ H' D = some (.lst [])) ⟨same_new hD, upd_same⟩ (fun i H' hi hP => ?_) (fun H' hP => ?_)
      · obtain ⟨sm, eD⟩ := hP
        have hi' : i < xs.length := by omega
        have ax : atI xs ((0 : Int) + i) = some xs[i] := by rw [Int.zero_add]; exact atI_nat (List.getElem?_eq_getElem hi')
        have ay : atI ys ((0 : Int) + i) = some ys[i] := by rw [Int.zero_add]; exact atI_nat (List.getElem?_eq_getElem hi)
        refine ⟨rfl, .ref a, rfl, _, rfl, mk_ix (sm _ _ hx2) ax ⟨.ref c, rfl, _, rfl, mk_ix (sm _ _ hy2) ay ?_⟩⟩
        refine it i _ _ (List.getElem?_eq_getElem hi') (List.getElem?_eq_getElem hi) H' _ (s12.trans sm) fun H'' sm2 => ?_
        exact ⟨_, rfl, iteF ⟨sm.trans sm2, sm2 _ _ eD⟩⟩
      · obtain ⟨sm, eD⟩ := hP
        refine ⟨Nat.zero_le _, fun p3 hp3 => ?_⟩
        have s3 := same_new (o := .lst []) hp3
        refine ⟨.list [], .list [], .lst (SqL.of (s3 _ _ eD)) .nil, .lst (SqL.of upd_same) .nil, rfl, rfl, ?_⟩
        rw [show PyData.eqv (.list []) (.list []) = true from rfl]
        exact q _ ((s12.trans sm).trans s3)
end

abbrev sKind : Stmt := topS 41
theorem scKind : FnScope ["_law_work", "e", "_law_kinds", "_law_words"] ["_law_work"] (defScope sKind) := ⟨rfl, rfl, rfl, by decide +kernel, rfl, by decide +kernel, by decide +kernel⟩
section
variable {P : Program} {w : World} {K : PySem.W.Frag} {mg : Str → Option Value} {base : Heap}
theorem ok_kind {g CE : Addr} {Cs : _root_.Fin 8 → Addr} {fd : FuncData} {k j : Nat} (F : Fun K "_law_kind" "_law_kind" sKind g fd) (b : Binds K fd ["_law_work"] []) (N : Nine mg CE Cs) (hj : j ≤ k) :
    TakesLam P w K mg base (k + 1) j g (TTK K CE Cs) := by
  refine takesLam_of F b scKind ?_
  intro cdv A outer s H f F eb fr ws sp Q hr L C q
  refine ⟨_, pss_one (ps_try_as (X := (cxOf CX0 P w K mg base ["_law_work", "e", "_law_kinds", "_law_words"] "_law_kind" (defScope sKind) g cdv A outer s H L2.E0).nox) (i := 1) (c := .ref CE)
      (tb := fun W => tRet (tLmCall 0 f F eb (sp ws) W))
      (Wout := fun _ _ _ _ => False)
      (ts := fun a cls d D σ H' => ∃ (D' : Addr) (j : _root_.Fin 8), cls = .ref D' ∧ d = none ∧ Kd K CE Cs D' j ∧ (∃ y0 y2 y3, σ = [y0, some (.ref a), y2, y3]) ∧ ∀ H'', Same H' H'' → D.rt (.str (wds.getD j.val "")) H'')
      rfl rfl scKind.nd rfl rfl ⟨rfl, by decide, .inl N.g⟩ L2.takes0 (fun W pn xe tk _ => ?_) (fun a oe cls d pn hz hf => ?_)), ?_⟩
  · exact pss_one (ps_ret (pe_lmcall (Z := (cxOf CX0 P w K mg base ["_law_work", "e", "_law_kinds", "_law_words"] "_law_kind" (defScope sKind) g cdv A outer s H L2.E0).nox.tr pn xe) (i := 0) (a := "_law_work")
      L (hr.mono hj) C (fun _ _ _ z => nomatch (show _ ∈ ([] : List Addr) from z)) tk rfl (.inl rfl)))
  · refine pss_sem fun D σ H' h' => ?_
    obtain ⟨D', j, rfl, rfl, kd, ⟨y0, y2, y3, rfl⟩, q⟩ := h'
    refine ⟨_, pss_cons (ps_set (i := 2) scKind.nd rfl (.inl rfl) (pe_lst (pa_cons (pe_callB (call_isK hz hf) (by rfl) N.isi (by decide +kernel) (pa_cons (pv 1) (pa_cons (pe_glob (v := .ref (Cs 0)) rfl N.g0 rfl) pa_nil)))
        (pa_cons (pe_callB (call_isK hz hf) (by rfl) N.isi (by decide +kernel) (pa_cons (pv 1) (pa_cons (pe_glob (v := .ref (Cs 1)) rfl N.g1 rfl) pa_nil)))
        (pa_cons (pe_callB (call_isK hz hf) (by rfl) N.isi (by decide +kernel) (pa_cons (pv 1) (pa_cons (pe_glob (v := .ref (Cs 2)) rfl N.g2 rfl) pa_nil)))
        (pa_cons (pe_callB (call_isK hz hf) (by rfl) N.isi (by decide +kernel) (pa_cons (pv 1) (pa_cons (pe_glob (v := .ref (Cs 3)) rfl N.g3 rfl) pa_nil))) pa_nil))))))
      (pss_cons (ps_set (i := 2) scKind.nd rfl (.inl rfl) (pe_op op_cat (pv 2) (pe_lst (pa_cons (pe_callB (call_isK hz hf) (by rfl) N.isi (by decide +kernel) (pa_cons (pv 1) (pa_cons (pe_glob (v := .ref (Cs 4)) rfl N.g4 rfl) pa_nil)))
        (pa_cons (pe_callB (call_isK hz hf) (by rfl) N.isi (by decide +kernel) (pa_cons (pv 1) (pa_cons (pe_glob (v := .ref (Cs 5)) rfl N.g5 rfl) pa_nil)))
        (pa_cons (pe_callB (call_isK hz hf) (by rfl) N.isi (by decide +kernel) (pa_cons (pv 1) (pa_cons (pe_glob (v := .ref (Cs 6)) rfl N.g6 rfl) pa_nil)))
        (pa_cons (pe_callB (call_isK hz hf) (by rfl) N.isi (by decide +kernel) (pa_cons (pv 1) (pa_cons (pe_glob (v := .ref (Cs 7)) rfl N.g7 rfl) pa_nil))) pa_nil)))))))
      (pss_cons (ps_set (i := 3) scKind.nd rfl (.inl rfl) (pe_lst (pa_cons pe_str (pa_cons pe_str (pa_cons pe_str (pa_cons pe_str (pa_cons pe_str (pa_cons pe_str (pa_cons pe_str (pa_cons pe_str pa_nil))))))))))
      (pss_cons (ps_if (PW.pt (pw_or (pt_cmpR op_ne (pe_bm PySem.F.plainAttrs_list PySem.F.slot_list_count PySem.F.type_list_count mt_fcount (pv 2) (pa_cons pe_bl pa_nil)) pe_int (nomark _))
          (pw_or1 (pt_not (pt_val (pe_callB (call_isK hz hf) (by rfl) N.isi (by decide +kernel) (pa_cons (pv 1) (pa_cons (pe_bltn (v := .ty "ValueError") (by rfl) N.ve (by decide +kernel) rfl) pa_nil))))))))
        (pss_one (ps_ret pe_str)) pss_nil)
      (pss_one (ps_ret (pe_ix ix_list (pv 3) (pe_bm PySem.F.plainAttrs_list PySem.F.slot_list_index PySem.F.type_list_index mt_index (pv 2) (pa_cons pe_bl pa_nil)) (fun _ _ => rfl))))))), ?_⟩
    -- kinds
    refine ⟨_, rfl, D', rfl, rfl, kd.c, .ref (Cs 0), .ref (Cs 0), _, rfl, fun _ e => e, kd.i 0, ?_⟩
    refine ⟨_, rfl, D', rfl, rfl, kd.c, .ref (Cs 1), .ref (Cs 1), _, rfl, fun _ e => e, kd.i 1, ?_⟩
    refine ⟨_, rfl, D', rfl, rfl, kd.c, .ref (Cs 2), .ref (Cs 2), _, rfl, fun _ e => e, kd.i 2, ?_⟩
    refine ⟨_, rfl, D', rfl, rfl, kd.c, .ref (Cs 3), .ref (Cs 3), _, rfl, fun _ e => e, kd.i 3, ?_⟩
    refine ⟨by show 4 ≤ sizeLine; decide, fun p1 h1 => ?_⟩
    have s1 := same_new (o := .lst [.bl (decide (j = 0)), .bl (decide (j = 1)), .bl (decide (j = 2)), .bl (decide (j = 3))]) h1
    refine ⟨.ref p1, rfl, ?_⟩
    refine ⟨_, rfl, D', rfl, rfl, kd.c, .ref (Cs 4), .ref (Cs 4), _, rfl, fun _ e => e, kd.i 4, ?_⟩
    refine ⟨_, rfl, D', rfl, rfl, kd.c, .ref (Cs 5), .ref (Cs 5), _, rfl, fun _ e => e, kd.i 5, ?_⟩
    refine ⟨_, rfl, D', rfl, rfl, kd.c, .ref (Cs 6), .ref (Cs 6), _, rfl, fun _ e => e, kd.i 6, ?_⟩
    refine ⟨_, rfl, D', rfl, rfl, kd.c, .ref (Cs 7), .ref (Cs 7), _, rfl, fun _ e => e, kd.i 7, ?_⟩
    refine ⟨by show 4 ≤ sizeLine; decide, fun p2 h2 => ?_⟩
    have s2 := same_new (o := .lst [.bl (decide (j = 4)), .bl (decide (j = 5)), .bl (decide (j = 6)), .bl (decide (j = 7))]) h2
    refine ⟨p1, p2, _, _, rfl, rfl, s2 _ _ upd_same, upd_same, by show 4 + 4 ≤ sizeLine; decide, fun p3 h3 => ?_⟩
    have s3 := same_new (o := .lst (bits j)) h3
    refine ⟨by show 8 ≤ sizeLine; decide, fun p4 h4 => ?_⟩
    have s4 := same_new (o := .lst (wds.map V.str)) h4
    have e3 := s4 _ _ (upd_same (H := _) (a := p3) (o := .lst (bits j)))
    have L3 := SqL.of (K := K) e3
    refine ⟨.ref p3, rfl, .inl ⟨rfl, _, L3⟩, p3, _, .bl true, rfl, rfl, L3, rfl, bits_flat j, ?_⟩
    refine ⟨rfl, _, rfl, ?_⟩
    rw [bits_count j]
    refine iteNS rfl ?_
    refine ⟨_, rfl, D', rfl, rfl, kd.c, .ty "ValueError", .type "ValueError", _, rfl, fun _ e => e, kd.v, _, rfl, iteF ?_⟩
    refine ⟨.ref p4, rfl, .ref p3, rfl, .inl ⟨rfl, _, L3⟩, p3, _, .bl true, j.val, .bl true, rfl, rfl, L3, rfl, bits_flat j, bits_at j, rfl, fun m z hm ez => ?_, ?_⟩
    · have e := bits_no j ⟨m, by omega⟩ hm
      rw [ez] at e
      cases e
      rfl
    · exact ⟨p4, _, _, _, rfl, rfl, SqL.of upd_same, wds_at j, q _ (((s1.trans s2).trans s3).trans s4)⟩
  · have z := q (WE (wAs K (.ref CE) 1 (fun a cls d D σ H' => ∃ (D' : Addr) (j : _root_.Fin 8), cls = .ref D' ∧ d = none ∧ Kd K CE Cs D' j ∧ (∃ y0 y2 y3, σ = [y0, some (.ref a), y2, y3]) ∧ ∀ H'', Same H' H'' → D.rt (.str (wds.getD j.val "")) H'') (fun _ _ _ _ => False)
        { nx := fun _ H' => Q .non H', rt := Q }) [some (.ref f), none, none, none]) (fun D j H' kd h => ?_)
    · obtain ⟨h1, h2, h3⟩ := z
      exact ⟨rfl, h1, h2, h3⟩
    · exact ⟨true, kd.x, fun _ a _ => ⟨D, j, rfl, rfl, kd, ⟨_, _, _, rfl⟩, h⟩, fun z => nomatch z⟩
end


end K2

namespace K2
open PySem PySem.Spec PyProof.Rows L2 LamX NdefX Lx
abbrev sIsNumber : Stmt := topS 20
theorem scIsNumber : FnScope ["value"] ["value"] (defScope sIsNumber) := ⟨rfl, rfl, rfl, by decide +kernel, rfl, by decide +kernel, by decide +kernel⟩
section
variable {P : Program} {w : World} {K : PySem.W.Frag} {mg : Str → Option Value} {base : Heap}
theorem ok_isNumber {f : Addr} {fd : FuncData} {k : Nat} (F : Fun K "is_number" "is_number" sIsNumber f fd) (B : Bl mg) : FnOk P w K mg base CX0 (k + 1) f fd ["value"] spIsNumber := by
  refine F.ok scIsNumber (fun vs H Q E h => ?_) (fun cdv A outer s H vs Q E hr h => ?_)
  · obtain ⟨n, rfl, _⟩ := h
    rfl
  · obtain ⟨n, rfl, q⟩ := h
    refine ⟨_, pss_one (ps_ret (pe_and (pe_callB call_isi (by rfl) B.isi (by decide +kernel) (pa_cons (pv 0) (pa_cons (pe_bltn (v := .ty "int") (by rfl) B.int (by decide +kernel) rfl) pa_nil)))
      (pe_one (pe_not (pe_callB call_isi (by rfl) B.isi (by decide +kernel) (pa_cons (pv 0) (pa_cons (pe_bltn (v := .ty "bool") (by rfl) B.bool (by decide +kernel) rfl) pa_nil))))))), ?_⟩
    refine ⟨_, rfl, .int n, .ty "int", .type "int", .type "int", true, rfl, .ty "int", .base (.int n), kit_ty (by decide +kernel), _, rfl, iteT ?_⟩
    exact ⟨_, rfl, .int n, .ty "bool", .type "int", .type "bool", false, rfl, .ty "bool", .base (.int n), kit_ty (by decide +kernel), _, rfl, q⟩
end

abbrev sIsRule : Stmt := topS 21
theorem scIsRule : FnScope ["wheel", "rule", "kind", "size"] ["wheel", "rule"] (defScope sIsRule) := ⟨rfl, rfl, rfl, by decide +kernel, rfl, by decide +kernel, by decide +kernel⟩
section
variable {P : Program} {w : World} {K : PySem.W.Frag} {mg : Str → Option Value} {base : Heap}
theorem ok_isRule {f : Addr} {fd : FuncData} {k j : Nat} {t : Tok} (F : Fun K "is_rule" "is_rule" sIsRule f fd) (B : Bl mg) (DN : Kn P w K mg base CX0 j "is_number" ["value"] spIsNumber) (DW : Kn P w K mg base CX0 j "is_wheel" ["number"] spIsWheel) (hj : j ≤ k)
    (gm : mg "MOST_LEAST" = some (.int 1000000000000 t)) : FnOk P w K mg base CX0 (k + 1) f fd ["wheel", "rule"] (spIsRule K) := by
  refine F.ok scIsRule (fun vs H Q E h => ?_) (fun cdv A outer s H vs Q E hr h => ?_)
  · obtain ⟨n, a, xs, rfl, _⟩ := h
    rfl
  · obtain ⟨n, a, xs, rfl, hS, hF, q⟩ := h
    have nd := scIsRule.nd
    refine ⟨_, pss_cons (ps_if (pt_not (pt_val (pe_callB call_isi (by rfl) B.isi (by decide +kernel) (pa_cons (pv 1) (pa_cons (pe_bltn (v := .ty "tuple") (by rfl) B.tup (by decide +kernel) rfl) pa_nil))))) (pss_one (ps_ret pe_bl)) pss_nil)
      (pss_cons (ps_if (pt_cmpR op_ne (pe_callB call_len_seq (by rfl) B.len PySem.boot_len (pa_cons (pv 1) pa_nil)) pe_int (nomark _)) (pss_one (ps_ret (pe_cmpR (op_eqD hr.units) (pv 1) (pe_tup (pa_cons pe_str pa_nil)) (nomark _)))) pss_nil)
      (pss_cons (ps_asg (pv 1) (pg_tup (by rfl) (pgs_cons (pg_name (i := 2) nd rfl (.inl rfl)) (pgs_cons (pg_name (i := 3) nd rfl (.inl rfl)) pgs_nil))))
      (pss_cons (ps_if (pt_not (pt_val (pe_kn DN hr hj (pa_cons (pv 3) pa_nil) rfl))) (pss_one (ps_ret pe_bl)) pss_nil)
      (pss_cons (ps_if (pt_cmpR op_eq (pv 2) pe_str (nomark _)) (pss_one (ps_ret (pe_chain op_le op_le pe_int (pv 3) (pe_glob (v := .int 1000000000000) rfl gm ⟨_, rfl⟩)))) pss_nil)
      (pss_cons (ps_if (pt_cmpR op_eq (pv 2) pe_str (nomark _)) (pss_one (ps_ret (pe_kn DW hr hj (pa_cons (pv 3) pa_nil) rfl))) pss_nil)
      (pss_one (ps_ret (pe_and (pe_cmpR op_eq (pv 2) pe_str (nomark _)) (pe_one (pe_chain op_le op_lt pe_int (pe_op op_mul pe_int (pv 3)) (pv 0))))))))))), ?_⟩
    refine ⟨_, rfl, .ref a, .ty "tuple", .type "tuple", .type "tuple", true, rfl, .ty "tuple", .base (.tup hS), kit_ty (by decide +kernel), _, rfl, iteF ?_⟩
    cases hF with
    | nil =>
      refine ⟨_, rfl, a, _, rfl, .inr (SqT.of hS), rfl, _, rfl, iteT ?_⟩
      refine ⟨_, rfl, by show 1 ≤ sizeLine; decide, fun p hp => ?_⟩
      have s1 := same_new (o := .tup [.str "near"]) hp
      refine ⟨.tuple [], .tuple [.str "near"], .tup (SqT.of (s1 _ _ hS)) .nil, .tup (SqT.of upd_same) (.cons (.str _) .nil), by decide +kernel, by decide +kernel, ?_⟩
      rw [show PyData.eqv (.tuple []) (.tuple [.str "near"]) = false by decide +kernel]
      exact q _ s1
    | one k hk =>
      refine ⟨_, rfl, a, _, rfl, .inr (SqT.of hS), rfl, _, rfl, iteT ?_⟩
      refine ⟨_, rfl, by show 1 ≤ sizeLine; decide, fun p hp => ?_⟩
      have s1 := same_new (o := .tup [.str "near"]) hp
      refine ⟨.tuple [.str k], .tuple [.str "near"], .tup (SqT.of (s1 _ _ hS)) (.cons (.str _) .nil), .tup (SqT.of upd_same) (.cons (.str _) .nil), sh1 k hk, by decide +kernel, ?_⟩
      rw [eq1 k]
      exact q _ s1
    | three k s t hk =>
      refine ⟨_, rfl, a, _, rfl, .inr (SqT.of hS), rfl, _, rfl, iteT ?_⟩
      refine ⟨_, rfl, by show 1 ≤ sizeLine; decide, fun p hp => ?_⟩
      have s1 := same_new (o := .tup [.str "near"]) hp
      refine ⟨.tuple [.str k, .int s, .int t], .tuple [.str "near"], .tup (SqT.of (s1 _ _ hS)) (.cons (.str _) (.cons (.int _) (.cons (.int _) .nil))), .tup (SqT.of upd_same) (.cons (.str _) .nil), sh3 k s t hk, by decide +kernel, ?_⟩
      rw [eq3 k s t]
      exact q _ s1
    | two k s =>
      refine ⟨_, rfl, a, _, rfl, .inr (SqT.of hS), rfl, _, rfl, iteNS rfl ?_⟩
      refine ⟨_, rfl, a, _, rfl, SqT.of hS, rfl, _, _, rfl, _, _, rfl, rfl, ?_⟩
      refine ⟨_, rfl, s, rfl, _, rfl, iteF ?_⟩
      have q : Q (.bl (twoB n k s)) H := q H (.refl _)
      unfold twoB at q
      refine ⟨_, rfl, rfl, _, rfl, ite2 (fun e => ?_) (fun e => ?_)⟩
      · have z : k = "up" := V.str.inj (of_decide_eq_true e)
        rw [if_pos z] at q
        refine ⟨_, rfl, _, _, rfl, rfl, _, rfl, ite2 (fun e => ?_) (fun e => ?_)⟩
        · have h1 : 0 ≤ s := of_decide_eq_true e
          refine ⟨_, _, rfl, rfl, ?_⟩
          rw [show decide (0 ≤ s ∧ s ≤ 1000000000000) = decide (s ≤ 1000000000000) from decide_eq_decide.mpr ⟨fun z => z.2, fun z => ⟨h1, z⟩⟩] at q
          exact q
        · have h1 : ¬ 0 ≤ s := fun z => e (decide_eq_true z)
          rw [show decide (0 ≤ s ∧ s ≤ 1000000000000) = false from decide_eq_false fun z => h1 z.1] at q
          exact q
      rw [if_neg (fun z => e (decide_eq_true (congrArg V.str z)))] at q
      refine ⟨_, rfl, rfl, _, rfl, ite2 (fun e => ?_) (fun e => ?_)⟩
      · have z : k = "pair" := V.str.inj (of_decide_eq_true e)
        rw [if_pos z] at q
        exact ⟨_, rfl, s, rfl, q⟩
      rw [if_neg (fun z => e (decide_eq_true (congrArg V.str z)))] at q
      refine ⟨_, rfl, rfl, _, rfl, ite2 (fun e => ?_) (fun e => ?_)⟩
      · have z : k = "about" := V.str.inj (of_decide_eq_true e)
        rw [if_pos z] at q
        refine ⟨_, rfl, 2, s, rfl, rfl, .inl ⟨by decide, by decide⟩, _, _, rfl, rfl, _, rfl, ite2 (fun e => ?_) (fun e => ?_)⟩
        · have h1 : 0 ≤ 2 * s := of_decide_eq_true e
          refine ⟨_, rfl, _, _, rfl, rfl, ?_⟩
          rw [show decide (0 ≤ 2 * s ∧ 2 * s < n) = decide (2 * s < n) from decide_eq_decide.mpr ⟨fun z => z.2, fun z => ⟨h1, z⟩⟩] at q
          exact q
        · have h1 : ¬ 0 ≤ 2 * s := fun z => e (decide_eq_true z)
          rw [show decide (0 ≤ 2 * s ∧ 2 * s < n) = false from decide_eq_false fun z => h1 z.1] at q
          exact q
      rw [if_neg (fun z => e (decide_eq_true (congrArg V.str z)))] at q
      exact q
end


end K2

namespace K2
open PySem PySem.Spec PyProof.Rows L2 LamX NdefX Lx
abbrev sCheckRule : Stmt := topS 22
theorem scCheckRule : FnScope ["wheel", "rule"] ["wheel", "rule"] (defScope sCheckRule) := ⟨rfl, rfl, rfl, by decide +kernel, rfl, by decide +kernel, by decide +kernel⟩
section
variable {P : Program} {w : World} {K : PySem.W.Frag} {mg : Str → Option Value} {base : Heap}
theorem ok_checkRule {f CW CR : Addr} {fd : FuncData} {k i j : Nat} (F : Fun K "check_rule" "check_rule" sCheckRule f fd) (DW : Kn P w K mg base (L2.CX P w) i "check_wheel" ["wheel"] (spCheckWheel CW))
    (DR : Kn P w K mg base CX0 j "is_rule" ["wheel", "rule"] (spIsRule K)) (hi : i ≤ k) (hj : j ≤ k) (T : Rf K mg "BadRule" CR) : FnOk P w K mg base (L2.CX P w) (k + 1) f fd ["wheel", "rule"] (spCheckRule K CW CR) := by
  refine F.okX scCheckRule (fun vs H Q E h => ?_) (fun cdv A outer s H vs Q E hr h => ?_)
  · obtain ⟨n, a, xs, rfl, _⟩ := h
    rfl
  · obtain ⟨n, a, xs, rfl, sm, hS, hF, e1, e2, q⟩ := h
    have hx := passes_call (X := cxOf (L2.CX P w) P w K mg base ["wheel", "rule"] "check_rule" (defScope sCheckRule) f cdv A outer s H E) (E := E) (takes_of (E := E) rfl rfl rfl rfl) (fun _ _ _ _ h => h)
    refine ⟨_, pss_cons (ps_expr (pe_knX DW hr hi hx (pa_cons (pv 0) pa_nil) rfl))
      (pss_one (ps_if (pt_not (pt_val (pe_kn DR hr hj (pa_cons (pv 0) (pa_cons (pv 1) pa_nil)) rfl)))
      (pss_one (ps_rf rfl T (takes_of rfl rfl rfl rfl) rfl (pe_joined (.cons pe_str (.cons (pe_fmt (pv 0)) .nil))))) pss_nil)), ?_⟩
    refine ⟨_, rfl, n, rfl, sm, fun h1 => ?_, fun h1 => e1 h1 _ (.refl _)⟩
    refine ⟨_, rfl, _, rfl, n, a, xs, rfl, hS, hF, fun H' s1 => ⟨_, rfl, ite2 (fun e => ?_) (fun e => ?_)⟩⟩
    · have h2 : RulB n xs = false := by simpa using e
      exact tJs2 (i := 0) rfl (by decide +kernel) sm fun _ => e2 h1 h2 _ s1
    · have h2 : RulB n xs = true := by simpa using e
      exact q h1 h2 _ s1
end

abbrev sCheckShown : Stmt := topS 23
theorem scCheckShown : FnScope ["wheel", "rule", "seen"] ["wheel", "rule", "seen"] (defScope sCheckShown) := ⟨rfl, rfl, rfl, by decide +kernel, rfl, by decide +kernel, by decide +kernel⟩
section
variable {P : Program} {w : World} {K : PySem.W.Frag} {mg : Str → Option Value} {base : Heap}
theorem ok_checkShown {f CS : Addr} {fd : FuncData} {k i : Nat} (F : Fun K "check_shown" "check_shown" sCheckShown f fd) (DS : Kn P w K mg base (L2.CX P w) i "check_seen" ["wheel", "seen"] (spCheckSeen CS)) (hi : i ≤ k) :
    FnOk P w K mg base (L2.CX P w) (k + 1) f fd ["wheel", "rule", "seen"] (spCheckShown K CS) := by
  refine F.okX scCheckShown (fun vs H Q E h => ?_) (fun cdv A outer s H vs Q E hr h => ?_)
  · obtain ⟨n, a, r, v, sv, rfl, _⟩ := h
    rfl
  · obtain ⟨n, a, r, v, sv, rfl, sm, hR, ok, hV, s1, s2, e1, q⟩ := h
    have hx := passes_call (X := cxOf (L2.CX P w) P w K mg base ["wheel", "rule", "seen"] "check_shown" (defScope sCheckShown) f cdv A outer s H E) (E := E) (takes_of (E := E) rfl rfl rfl rfl) (fun _ _ _ _ h => h)
    refine ⟨_, pss_cons (ps_if (pt_cmpR op_ne (pe_ix ix_tup (pv 1) pe_int (fun _ _ => rfl)) pe_str (nomark _))
        (pss_cons (ps_expr (pe_knX DS hr hi hx (pa_cons (pv 0) (pa_cons (pv 2) pa_nil)) rfl)) (pss_one ps_retN)) pss_nil)
      (pss_cons (ps_expr (pe_knX DS hr hi hx (pa_cons (pv 0) (pa_cons (pe_ix ix_tup (pv 2) pe_int (fun _ _ => rfl)) pa_nil)) rfl))
      (pss_one (ps_expr (pe_knX DS hr hi hx (pa_cons (pe_ix ix_tup (pv 1) pe_int (fun _ _ => rfl)) (pa_cons (pe_ix ix_tup (pv 2) pe_int (fun _ _ => rfl)) pa_nil)) rfl)))), ?_⟩
    cases r with
    | pair o =>
      obtain ⟨p, rfl, hp⟩ := hV
      refine ⟨_, rfl, a, _, 0, _, rfl, rfl, SqT.of hR, rfl, rfl, _, rfl, iteNS rfl ?_⟩
      refine ⟨_, rfl, _, rfl, p, _, 0, _, rfl, rfl, hp, rfl, n, sv.1, rfl, sm, s1, fun h1 => ?_, fun h1 => e1 fun z => h1 z.1⟩
      refine ⟨_, rfl, a, _, 1, _, rfl, rfl, SqT.of hR, rfl, _, rfl, p, _, 1, _, rfl, rfl, hp, rfl, o, sv.2, rfl, ⟨by have := ok.1; omega, by have := ok.2; omega⟩, s2, fun h2 => q ⟨h1, h2⟩, fun h2 => e1 fun z => h2 z.2⟩
    | up l =>
      obtain rfl : v = .int sv.1 := hV
      refine ⟨_, rfl, a, _, 0, _, rfl, rfl, SqT.of hR, rfl, rfl, _, rfl, iteT ?_⟩
      exact ⟨_, rfl, _, rfl, n, sv.1, rfl, sm, s1, fun h1 => q h1, fun h1 => e1 h1⟩
    | near =>
      obtain rfl : v = .int sv.1 := hV
      refine ⟨_, rfl, a, _, 0, _, rfl, rfl, SqT.of hR, rfl, rfl, _, rfl, iteT ?_⟩
      exact ⟨_, rfl, _, rfl, n, sv.1, rfl, sm, s1, fun h1 => q h1, fun h1 => e1 h1⟩
    | about f =>
      obtain rfl : v = .int sv.1 := hV
      refine ⟨_, rfl, a, _, 0, _, rfl, rfl, SqT.of hR, rfl, rfl, _, rfl, iteT ?_⟩
      exact ⟨_, rfl, _, rfl, n, sv.1, rfl, sm, s1, fun h1 => q h1, fun h1 => e1 h1⟩
end

abbrev sLeast : Stmt := topS 26
theorem scLeast : FnScope ["wheel", "low", "rest"] ["wheel", "low", "rest"] (defScope sLeast) := ⟨rfl, rfl, rfl, by decide +kernel, rfl, by decide +kernel, by decide +kernel⟩
section
variable {P : Program} {w : World} {K : PySem.W.Frag} {mg : Str → Option Value} {base : Heap}
theorem ok_least {f : Addr} {fd : FuncData} {k : Nat} (F : Fun K "_least_from" "_least_from" sLeast f fd) : FnOk P w K mg base CX0 (k + 1) f fd ["wheel", "low", "rest"] spLeast := by
  refine F.ok scLeast (fun vs H Q E h => ?_) (fun cdv A outer s H vs Q E hr h => ?_)
  · obtain ⟨n, lo, d, rfl, _⟩ := h
    rfl
  · obtain ⟨n, lo, d, rfl, hn, q⟩ := h
    refine ⟨_, pss_one (ps_ret (pe_op op_add (pv 1) (pe_op op_mod (pe_op op_sub (pv 2) (pv 1)) (pv 0)))), ?_⟩
    exact ⟨_, rfl, _, rfl, _, rfl, _, _, rfl, rfl, _, rfl, _, _, rfl, rfl, hn, _, _, rfl, rfl, q⟩
end

abbrev sGapAbout : Stmt := topS 27
theorem scGapAbout : FnScope ["wheel", "off", "rest", "about", "told"] ["wheel", "off", "rest", "about"] (defScope sGapAbout) := ⟨rfl, rfl, rfl, by decide +kernel, rfl, by decide +kernel, by decide +kernel⟩
section
variable {P : Program} {w : World} {K : PySem.W.Frag} {mg : Str → Option Value} {base : Heap}
theorem ok_gapAbout {f CN : Addr} {fd : FuncData} {k i : Nat} (F : Fun K "_gap_about" "_gap_about" sGapAbout f fd) (D : Kn P w K mg base CX0 i "_least_from" ["wheel", "low", "rest"] spLeast) (hi : i ≤ k) (T : Rf K mg "NoGap" CN) :
    FnOk P w K mg base (L2.CX P w) (k + 1) f fd ["wheel", "off", "rest", "about"] (spGapAbout CN) := by
  refine F.okX scGapAbout (fun vs H Q E h => ?_) (fun cdv A outer s H vs Q E hr h => ?_)
  · obtain ⟨n, o, d, c, rfl, _⟩ := h
    rfl
  · obtain ⟨n, o, d, c, rfl, hn, sc, sd, q, e⟩ := h
    have nd := scGapAbout.nd
    refine ⟨_, pss_cons (ps_set (i := 4) nd rfl (.inl rfl) (pe_kn D hr hi (pa_cons (pv 0) (pa_cons (pe_op op_sub (pv 3) (pv 1)) (pa_cons (pv 2) pa_nil))) rfl))
      (pss_cons (ps_if (pt_cmpR op_gt (pv 4) (pe_op op_add (pv 3) (pv 1)) (nomark _)) (pss_one (ps_rf rfl T (takes_of rfl rfl rfl rfl) rfl (pe_joined (.cons pe_str (.cons (pe_fmt (pv 3)) (.cons pe_str (.cons (pe_fmt (pv 2)) .nil))))))) pss_nil)
      (pss_one (ps_ret (pv 4)))), ?_⟩
    refine ⟨_, rfl, _, rfl, _, rfl, _, _, rfl, rfl, _, rfl, n, c - o, d, rfl, hn, ?_⟩
    refine ⟨_, rfl, _, rfl, _, rfl, _, _, rfl, rfl, _, _, rfl, rfl, _, rfl, ite2 (fun h => ?_) (fun h => ?_)⟩
    · have h : c + o < c - o + (d - (c - o)) % n := of_decide_eq_true h
      exact tJs4 (i := 3) (j := 2) (a := "no number about ") (b := " has the rest ") rfl rfl (by decide +kernel) (by decide +kernel) sc sd fun _ => e h
    · have h : ¬ c + o < c - o + (d - (c - o)) % n := fun z => h (decide_eq_true z)
      exact ⟨_, rfl, q (by omega)⟩
end

abbrev sShown : Stmt := topS 24
theorem scShown : FnScope ["wheel", "rule", "time"] ["wheel", "rule", "time"] (defScope sShown) := ⟨rfl, rfl, rfl, by decide +kernel, rfl, by decide +kernel, by decide +kernel⟩
section
variable {P : Program} {w : World} {K : PySem.W.Frag} {mg : Str → Option Value} {base : Heap}
theorem ok_shown {f CW CR : Addr} {fd : FuncData} {k i : Nat} (F : Fun K "shown" "shown" sShown f fd) (D : Kn P w K mg base (L2.CX P w) i "check_rule" ["wheel", "rule"] (spCheckRule K CW CR)) (hi : i ≤ k) :
    FnOk P w K mg base (L2.CX P w) (k + 1) f fd ["wheel", "rule", "time"] (spShown K CW CR) := by
  refine F.okX scShown (fun vs H Q E h => ?_) (fun cdv A outer s H vs Q E hr h => ?_)
  · obtain ⟨n, a, t, rfl, _⟩ := h
    rfl
  · obtain ⟨n, a, t, rfl, xs, sm, hS, hF, e1, e2, q⟩ := h
    have hx := passes_call (X := cxOf (L2.CX P w) P w K mg base ["wheel", "rule", "time"] "shown" (defScope sShown) f cdv A outer s H E) (E := E) (takes_of (E := E) rfl rfl rfl rfl) (fun _ _ _ _ h => h)
    refine ⟨_, pss_cons (ps_expr (pe_knX D hr hi hx (pa_cons (pv 0) (pa_cons (pv 1) pa_nil)) rfl))
      (pss_cons (ps_if (pt_cmpR op_eq (pe_ix ix_tup (pv 1) pe_int (fun _ _ => rfl)) pe_str (nomark _)) (pss_one (ps_ret (pe_tup (pa_cons (pe_op op_mod (pv 2) (pv 0)) (pa_cons (pe_op op_mod (pv 2) (pe_ix ix_tup (pv 1) pe_int (fun _ _ => rfl))) pa_nil))))) pss_nil)
      (pss_one (ps_ret (pe_op op_mod (pv 2) (pv 0))))), ?_⟩
    refine ⟨_, rfl, _, rfl, n, a, xs, rfl, sm, hS, hF, e1, e2, fun h1 h2 H' s1 => ?_⟩
    obtain ⟨r, rfl, ok⟩ := rul_of hF h2
    have q := q r h1 ok rfl
    have hT : SqT K H' a (rulT r) := SqT.of (s1 _ _ hS)
    have np : 0 < n := by have := h1.1; omega
    cases r with
    | pair o =>
      have op : 0 < o := by have := ok.1; omega
      refine ⟨_, rfl, a, _, 0, _, rfl, rfl, hT, rfl, rfl, _, rfl, iteT ?_⟩
      refine ⟨_, rfl, _, rfl, _, _, rfl, rfl, np, _, rfl, _, rfl, a, _, 1, _, rfl, rfl, hT, rfl, _, _, rfl, rfl, op, by show 2 ≤ sizeLine; decide, fun p hp => ?_⟩
      exact q _ _ (s1.trans (same_new hp)) ⟨p, rfl, SqT.of upd_same⟩
    | up l =>
      refine ⟨_, rfl, a, _, 0, _, rfl, rfl, hT, rfl, rfl, _, rfl, iteF ?_⟩
      exact ⟨_, rfl, _, rfl, _, _, rfl, rfl, np, q _ (.int (t % n)) s1 rfl⟩
    | near =>
      refine ⟨_, rfl, a, _, 0, _, rfl, rfl, hT, rfl, rfl, _, rfl, iteF ?_⟩
      exact ⟨_, rfl, _, rfl, _, _, rfl, rfl, np, q _ (.int (t % n)) s1 rfl⟩
    | about f =>
      refine ⟨_, rfl, a, _, 0, _, rfl, rfl, hT, rfl, rfl, _, rfl, iteF ?_⟩
      exact ⟨_, rfl, _, rfl, _, _, rfl, rfl, np, q _ (.int (t % n)) s1 rfl⟩
end


end K2

namespace K2
open PySem PySem.Spec PyProof.Rows L2 LamX NdefX Lx
abbrev sCommon : Stmt := topS 29
theorem scCommon : FnScope ["wheel", "other_wheel", "divisor", "rest", "turns", "following", "times"] ["wheel", "other_wheel"] (defScope sCommon) := ⟨rfl, rfl, rfl, by decide +kernel, rfl, by decide +kernel, by decide +kernel⟩
section
variable {P : Program} {w : World} {K : PySem.W.Frag} {mg : Str → Option Value} {base : Heap}
theorem ok_common {f : Addr} {fd : FuncData} {k : Nat} (F : Fun K "_common_divisor" "_common_divisor" sCommon f fd) : FnOk P w K mg base CX0 (k + 1) f fd ["wheel", "other_wheel"] spCommon := by
  refine F.ok scCommon (fun vs H Q E h => ?_) (fun cdv A outer s H vs Q E hr h => ?_)
  · obtain ⟨n, o, rfl, _⟩ := h
    rfl
  · obtain ⟨n, o, rfl, hn, ho, q⟩ := h
    have nd := scCommon.nd
    refine ⟨_, pss_cons (ps_par (i := 2) (j := 3) (by rfl) nd rfl rfl (by decide) rfl rfl (pa_cons (pv 0) (pa_cons (pv 1) pa_nil)) (by rfl))
      (pss_cons (ps_asg (pe_tup (pa_cons pe_int (pa_cons pe_int pa_nil))) (pg_tup (by rfl) (pgs_cons (pg_name (i := 4) nd rfl (.inl rfl)) (pgs_cons (pg_name (i := 5) nd rfl (.inl rfl)) pgs_nil))))
      (pss_cons (ps_while PassesOwn.never (pt_cmpR op_ne (pv 3) pe_int (nomark _))
        (pss_cons (ps_set (i := 6) nd rfl (.inl rfl) (pe_op op_fdivW (pv 2) (pv 3)))
        (pss_cons (ps_par (i := 2) (j := 3) (by rfl) nd rfl rfl (by decide) rfl rfl (pa_cons (pv 3) (pa_cons (pe_op op_sub (pv 2) (pe_op op_mul (pv 6) (pv 3))) pa_nil)) (by rfl))
        (pss_one (ps_par (i := 4) (j := 5) (by rfl) nd rfl rfl (by decide) rfl rfl (pa_cons (pv 5) (pa_cons (pe_op op_sub (pv 4) (pe_op op_mul (pv 6) (pv 5))) pa_nil)) (by rfl))))))
      (pss_one (ps_ret (pe_tup (pa_cons (pv 2) (pa_cons (pv 4) pa_nil))))))), ?_⟩
    refine ⟨_, rfl, _, rfl, _, _, rfl, by show 2 ≤ sizeLine; decide, fun p0 hp0 => ⟨p0, _, rfl, SqT.of upd_same, rfl, _, _, rfl, _, _, rfl, rfl, ?_⟩⟩
    have s0 := same_new (o := .tup [.int 1, .int 0]) hp0
    generalize upd H p0 (.tup [.int 1, .int 0]) = H0 at s0 ⊢
    refine ⟨fun m σ H' => H' = H0 ∧ ∃ (dv rs t fo : Int) (y : Option V), σ = [some (.int n), some (.int o), some (.int dv), some (.int rs), some (.int t), some (.int fo), y] ∧ m = rs.toNat ∧ 0 ≤ dv ∧ dv ≤ 1000000000000 ∧ 0 ≤ rs ∧ rs ≤ 1000000000000 ∧
      Int.gcd dv rs = Int.gcd n o ∧ o ∣ dv - t * n ∧ o ∣ rs - fo * n, ⟨_, rfl, n, o, 1, 0, none, rfl, rfl, by have := hn.1; omega, hn.2, by have := ho.1; omega, ho.2, rfl, ⟨0, by omega⟩, ⟨1, by omega⟩⟩, ?_⟩
    rintro m σ H' ⟨rfl, dv, rs, t, fo, y, rfl, rfl, d0, d1, r0, r1, eg, dt, df⟩
    refine ⟨_, rfl, rfl, _, rfl, ite2 (fun e => ?_) (fun e => ?_)⟩
    · have nz : rs ≠ 0 := by simpa using e
      have rp : 0 < rs := by omega
      have h1 := Int.mul_ediv_add_emod dv rs
      have h2 := Int.emod_nonneg dv nz
      have h3 := Int.emod_lt_of_pos dv rp
      have h4 := Int.ediv_nonneg d0 r0
      have h5 : dv / rs ≤ dv := Int.ediv_le_self _ d0
      have gs := gcd_step (a := dv) (b := rs) (q := dv / rs)
      refine ⟨fun σ' H'' => H'' = H' ∧ ∃ (tm : Int), σ' = [some (.int n), some (.int o), some (.int rs), some (.int (dv - dv / rs * rs)), some (.int fo), some (.int (t - dv / rs * fo)), some (.int tm)], fun σ' H'' h => ?_, ?_⟩
      · obtain ⟨rfl, tm, rfl⟩ := h
        have e1 : dv - dv / rs * rs = dv % rs := by rw [Int.mul_comm]; omega
        refine ⟨(dv - dv / rs * rs).toNat, by omega, rfl, rs, dv - dv / rs * rs, fo, t - dv / rs * fo, _, rfl, rfl, r0, r1, by omega, by omega, gs.trans eg, df, ?_⟩
        obtain ⟨a, ha⟩ := dt
        obtain ⟨b, hb⟩ := df
        refine ⟨a - dv / rs * b, ?_⟩
        generalize dv / rs = q
        have z1 : (t - q * fo) * n = t * n - q * (fo * n) := by rw [Int.sub_mul, Int.mul_assoc]
        have z2 : fo * n = rs - o * b := by omega
        have z3 : q * (rs - o * b) = q * rs - o * (q * b) := by rw [Int.mul_sub, Int.mul_left_comm]
        rw [z1, z2, z3, Int.mul_sub]
        omega
      · refine ⟨_, rfl, _, rfl, _, _, rfl, rfl, wide40 rp (by omega), ?_⟩
        refine ⟨_, rfl, _, rfl, _, rfl, _, rfl, _, _, rfl, rfl, .inl ⟨by omega, by omega⟩, _, _, rfl, rfl, _, _, rfl, ?_⟩
        refine ⟨_, rfl, _, rfl, _, rfl, _, rfl, _, _, rfl, rfl, .inl ⟨by omega, by omega⟩, _, _, rfl, rfl, _, _, rfl, ?_⟩
        exact ⟨rfl, _, rfl⟩
    · have z : rs = 0 := by simpa using e
      subst z
      refine ⟨_, rfl, _, rfl, by show 2 ≤ sizeLine; decide, fun p hp => ?_⟩
      have e2 : dv = (Int.gcd n o : Int) := by
        rw [← eg, Int.gcd_zero_right]; omega
      subst e2
      exact q t _ p dt (s0.trans (same_new hp)) upd_same
end

abbrev sGapPair : Stmt := topS 28
theorem scGapPair : FnScope ["wheel", "other_wheel", "one", "other", "rest", "missing", "divisor", "turns"] ["wheel", "other_wheel", "one", "other"] (defScope sGapPair) := ⟨rfl, rfl, rfl, by decide +kernel, rfl, by decide +kernel, by decide +kernel⟩
section
variable {P : Program} {w : World} {K : PySem.W.Frag} {mg : Str → Option Value} {base : Heap}
theorem ok_gapPair {f CN : Addr} {fd : FuncData} {k i : Nat} (F : Fun K "_gap_of_pair" "_gap_of_pair" sGapPair f fd) (D : Kn P w K mg base CX0 i "_common_divisor" ["wheel", "other_wheel"] spCommon) (hi : i ≤ k) (T : Rf K mg "NoGap" CN) :
    FnOk P w K mg base (L2.CX P w) (k + 1) f fd ["wheel", "other_wheel", "one", "other"] (spGapPair K CN) := by
  refine F.okX scGapPair (fun vs H Q E h => ?_) (fun cdv A outer s H vs Q E hr h => ?_)
  · obtain ⟨n, o, a, b, x, y, rfl, _⟩ := h
    rfl
  · obtain ⟨n, o, a, b, x, y, rfl, hn, ho, ha, hb, sx, sy, q, qn⟩ := h
    have nd := scGapPair.nd
    refine ⟨_, pss_cons (ps_set (i := 4) nd rfl (.inl rfl) (pe_op op_mod (pe_op op_sub (pe_ix ix_tup (pv 3) pe_int (fun _ _ => rfl)) (pe_ix ix_tup (pv 2) pe_int (fun _ _ => rfl))) (pv 0)))
      (pss_cons (ps_set (i := 5) nd rfl (.inl rfl) (pe_op op_sub (pe_op op_sub (pe_ix ix_tup (pv 3) pe_int (fun _ _ => rfl)) (pe_ix ix_tup (pv 2) pe_int (fun _ _ => rfl))) (pv 4)))
      (pss_cons (ps_asg (pe_kn D hr hi (pa_cons (pv 0) (pa_cons (pv 1) pa_nil)) rfl) (pg_tup (by rfl) (pgs_cons (pg_name (i := 6) nd rfl (.inl rfl)) (pgs_cons (pg_name (i := 7) nd rfl (.inl rfl)) pgs_nil))))
      (pss_cons (ps_if (pt_cmpR op_ne (pe_op op_mod (pv 5) (pv 6)) pe_int (nomark _)) (pss_one (ps_rf rfl T (takes_of rfl rfl rfl rfl) rfl pe_str)) pss_nil)
      (pss_one (ps_ret (pe_op op_add (pv 4) (pe_op op_mul (pe_op op_mod (pe_op op_mul (pe_op op_fdivW (pv 5) (pv 6)) (pv 7)) (pe_op op_fdivW (pv 1) (pv 6))) (pv 0)))))))), ?_⟩
    obtain ⟨⟨x0, x1⟩, ⟨x2, x3⟩⟩ : Sn n x.1 ∧ Sn o x.2 := sx
    obtain ⟨⟨y0, y1⟩, ⟨y2, y3⟩⟩ : Sn n y.1 ∧ Sn o y.2 := sy
    have n1 := hn.1
    have n2 := hn.2
    have o1 := ho.1
    have o2 := ho.2
    have np : 0 < n := by omega
    have op : 0 < o := by omega
    refine ⟨_, rfl, b, _, 0, _, rfl, rfl, hb, rfl, _, rfl, a, _, 0, _, rfl, rfl, ha, rfl, _, _, rfl, rfl, _, rfl, _, _, rfl, rfl, np, ?_⟩
    refine ⟨_, rfl, b, _, 1, _, rfl, rfl, hb, rfl, _, rfl, a, _, 1, _, rfl, rfl, ha, rfl, _, _, rfl, rfl, _, rfl, _, _, rfl, rfl, ?_⟩
    refine ⟨_, rfl, _, rfl, n, o, rfl, hn, ho, fun t H' p dt sm ep => ?_⟩
    have gp : 0 < (Int.gcd n o : Int) := gcd_pos np
    have gle : (Int.gcd n o : Int) ≤ n := Int.le_of_dvd np (Int.gcd_dvd_left n o)
    have gdo : (Int.gcd n o : Int) ∣ o := Int.gcd_dvd_right n o
    have r0 := Int.emod_nonneg (y.1 - x.1) (show n ≠ 0 by omega)
    have r1 := Int.emod_lt_of_pos (y.1 - x.1) np
    refine ⟨p, _, rfl, SqT.of ep, rfl, _, _, rfl, _, _, rfl, rfl, ?_⟩
    generalize hg : (Int.gcd n o : Int) = g at *
    refine ⟨_, rfl, _, rfl, _, _, rfl, rfl, gp, rfl, _, rfl, ite2 (fun e => ?_) (fun e => ?_)⟩
    · have nz : (y.2 - x.2 - (y.1 - x.1) % n) % g ≠ 0 := by simpa using e
      exact qn (gap_pair_no (d := (y.1 - x.1, y.2 - x.2)) hg.symm nz) _ sm
    · have z : (y.2 - x.2 - (y.1 - x.1) % n) % g = 0 := by simpa using e
      have key := gap_pair (c := 0) (d := (y.1 - x.1, y.2 - x.2)) np op hg.symm dt z rfl
      have kp : 0 < o / g := by
        obtain ⟨k, hk⟩ := gdo
        rw [hk, Int.mul_ediv_cancel_left k (by omega)]
        rcases Int.lt_or_le 0 k with z | z
        · exact z
        · have := Int.mul_le_mul_of_nonneg_left z (Int.le_of_lt gp); omega
      have ko : o / g ≤ o := Int.ediv_le_self _ (by omega)
      have m1 : (y.2 - x.2 - (y.1 - x.1) % n) / g ≤ 10000000000000 := by
        refine Int.le_of_lt_add_one (Int.ediv_lt_of_lt_mul gp ?_)
        have := Int.mul_le_mul_of_nonneg_left (show 1 ≤ g by omega) (show (0 : Int) ≤ 10000000000000 + 1 by decide)
        omega
      have m0 : -10000000000000 ≤ (y.2 - x.2 - (y.1 - x.1) % n) / g := by
        refine Int.le_ediv_of_mul_le gp ?_
        have := Int.mul_le_mul_of_nonneg_left (show 1 ≤ g by omega) (show (0 : Int) ≤ 10000000000000 by decide)
        omega
      refine ⟨_, rfl, _, rfl, _, rfl, _, _, rfl, rfl, wide40 gp (by omega), _, rfl, _, _, rfl, rfl, .inl ⟨by omega, by omega⟩, _, rfl, _, rfl, _, _, rfl, rfl, wide40 gp (by omega), _, _, rfl, rfl, kp, _, rfl, _, _, rfl, rfl, ?_, _, _, rfl, rfl, q _ key _ sm⟩
      have := Int.emod_nonneg ((y.2 - x.2 - (y.1 - x.1) % n) / g * t) (show o / g ≠ 0 by omega)
      have := Int.emod_lt_of_pos ((y.2 - x.2 - (y.1 - x.1) % n) / g * t) kp
      exact .inl ⟨by omega, by omega⟩
end


end K2

namespace K2
open PySem PySem.Spec PyProof.Rows L2 LamX NdefX Lx
abbrev sBound : Stmt := topS 30
theorem scBound : FnScope ["wheel", "rule", "kind"] ["wheel", "rule"] (defScope sBound) := ⟨rfl, rfl, rfl, by decide +kernel, rfl, by decide +kernel, by decide +kernel⟩
section
variable {P : Program} {w : World} {K : PySem.W.Frag} {mg : Str → Option Value} {base : Heap}
theorem ok_bound {f CW CR : Addr} {fd : FuncData} {k i : Nat} (F : Fun K "bound" "bound" sBound f fd) (D : Kn P w K mg base (L2.CX P w) i "check_rule" ["wheel", "rule"] (spCheckRule K CW CR)) (hi : i ≤ k) (gl : mg "lcm" = some (.builtin "math.lcm")) :
    FnOk P w K mg base (L2.CX P w) (k + 1) f fd ["wheel", "rule"] (spBound K CW CR) := by
  refine F.okX scBound (fun vs H Q E h => ?_) (fun cdv A outer s H vs Q E hr h => ?_)
  · obtain ⟨n, a, rfl, _⟩ := h
    rfl
  · obtain ⟨n, a, rfl, xs, sm, hS, hF, e1, e2, q⟩ := h
    have nd := scBound.nd
    have hx := passes_call (X := cxOf (L2.CX P w) P w K mg base ["wheel", "rule", "kind"] "bound" (defScope sBound) f cdv A outer s H E) (E := E) (takes_of (E := E) rfl rfl rfl rfl) (fun _ _ _ _ h => h)
    refine ⟨_, pss_cons (ps_expr (pe_knX D hr hi hx (pa_cons (pv 0) (pa_cons (pv 1) pa_nil)) rfl))
      (pss_cons (ps_set (i := 2) nd rfl (.inl rfl) (pe_ix ix_tup (pv 1) pe_int (fun _ _ => rfl)))
      (pss_cons (ps_if (pt_cmpR op_eq (pv 2) pe_str (nomark _)) (pss_one (ps_ret (pe_tup (pa_cons (pe_ix ix_tup (pv 1) pe_int (fun _ _ => rfl)) (pa_cons (pe_op op_sub (pe_op op_add (pe_ix ix_tup (pv 1) pe_int (fun _ _ => rfl)) (pv 0)) pe_int) pa_nil))))) pss_nil)
      (pss_cons (ps_if (pt_cmpR op_eq (pv 2) pe_str (nomark _)) (pss_one (ps_ret (pe_tup (pa_cons (pe_un un_neg (pe_op op_fdiv (pe_op op_sub (pv 0) pe_int) pe_int)) (pa_cons (pe_op op_fdiv (pv 0) pe_int) pa_nil))))) pss_nil)
      (pss_cons (ps_if (pt_cmpR op_eq (pv 2) pe_str (nomark _)) (pss_one (ps_ret (pe_tup (pa_cons pe_int (pa_cons (pe_op op_sub (pe_callBfun cr_lcm rfl gl (pa_cons (pv 0) (pa_cons (pe_ix ix_tup (pv 1) pe_int (fun _ _ => rfl)) pa_nil))) pe_int) pa_nil))))) pss_nil)
      (pss_one (ps_ret (pe_tup (pa_cons (pe_un un_neg (pe_ix ix_tup (pv 1) pe_int (fun _ _ => rfl))) (pa_cons (pe_ix ix_tup (pv 1) pe_int (fun _ _ => rfl)) pa_nil))))))))), ?_⟩
    refine ⟨_, rfl, _, rfl, n, a, xs, rfl, sm, hS, hF, e1, e2, fun h1 h2 H' s1 => ?_⟩
    obtain ⟨r, rfl, ok⟩ := rul_of hF h2
    have q := q r h1 ok rfl
    have hT : SqT K H' a (rulT r) := SqT.of (s1 _ _ hS)
    have fin : ∀ p : Addr, H' p = none → Q (.ref p) (upd H' p (.tup [.int (bd n r).1, .int (bd n r).2])) := fun p hp => q _ p (s1.trans (same_new hp)) (s1.free hp) upd_same
    cases r with
    | up l =>
      refine ⟨_, rfl, a, _, 0, _, rfl, rfl, hT, rfl, ?_⟩
      refine ⟨_, rfl, rfl, _, rfl, iteT ?_⟩
      exact ⟨_, rfl, a, _, 1, _, rfl, rfl, hT, rfl, _, rfl, a, _, 1, _, rfl, rfl, hT, rfl, _, rfl, _, _, rfl, rfl, _, _, rfl, rfl, by show 2 ≤ sizeLine; decide, fin⟩
    | near =>
      refine ⟨_, rfl, a, _, 0, _, rfl, rfl, hT, rfl, ?_⟩
      refine ⟨_, rfl, rfl, _, rfl, iteF ?_⟩
      refine ⟨_, rfl, rfl, _, rfl, iteT ?_⟩
      exact ⟨_, rfl, _, _, rfl, rfl, _, _, rfl, rfl, ⟨by decide, by decide⟩, _, rfl, _, rfl, _, _, rfl, rfl, ⟨by decide, by decide⟩, by show 2 ≤ sizeLine; decide, fin⟩
    | pair o =>
      refine ⟨_, rfl, a, _, 0, _, rfl, rfl, hT, rfl, ?_⟩
      refine ⟨_, rfl, rfl, _, rfl, iteF ?_⟩
      refine ⟨_, rfl, rfl, _, rfl, iteF ?_⟩
      refine ⟨_, rfl, rfl, _, rfl, iteT ?_⟩
      have h3 := h1.1
      have h4 := h1.2
      have h5 := ok.1
      have h6 := ok.2
      exact ⟨_, rfl, _, rfl, a, _, 1, _, rfl, rfl, hT, rfl, n, o, rfl, by omega, by omega, _, _, rfl, rfl, by show 2 ≤ sizeLine; decide, fin⟩
    | about f =>
      refine ⟨_, rfl, a, _, 0, _, rfl, rfl, hT, rfl, ?_⟩
      refine ⟨_, rfl, rfl, _, rfl, iteF ?_⟩
      refine ⟨_, rfl, rfl, _, rfl, iteF ?_⟩
      refine ⟨_, rfl, rfl, _, rfl, iteF ?_⟩
      exact ⟨_, rfl, a, _, 1, _, rfl, rfl, hT, rfl, _, rfl, _, rfl, a, _, 1, _, rfl, rfl, hT, rfl, by show 2 ≤ sizeLine; decide, fin⟩
end

abbrev sGap : Stmt := topS 25
theorem scGap : FnScope ["wheel", "rule", "one", "other", "about", "rest", "low", "_"] ["wheel", "rule", "one", "other", "about"] (defScope sGap) := ⟨rfl, rfl, rfl, by decide +kernel, rfl, by decide +kernel, by decide +kernel⟩
section
variable {P : Program} {w : World} {K : PySem.W.Frag} {mg : Str → Option Value} {base : Heap}
theorem ok_gap {f CW CR CS CN : Addr} {fd : FuncData} {k i : Nat} (F : Fun K "gap" "gap" sGap f fd) (DR : Kn P w K mg base (L2.CX P w) i "check_rule" ["wheel", "rule"] (spCheckRule K CW CR)) (DS : Kn P w K mg base (L2.CX P w) i "check_shown" ["wheel", "rule", "seen"] (spCheckShown K CS))
    (DP : Kn P w K mg base (L2.CX P w) i "_gap_of_pair" ["wheel", "other_wheel", "one", "other"] (spGapPair K CN)) (DA : Kn P w K mg base (L2.CX P w) i "_gap_about" ["wheel", "off", "rest", "about"] (spGapAbout CN))
    (DB : Kn P w K mg base (L2.CX P w) i "bound" ["wheel", "rule"] (spBound K CW CR)) (DL : Kn P w K mg base CX0 i "_least_from" ["wheel", "low", "rest"] spLeast) (hi : i ≤ k) :
    FnOk P w K mg base (L2.CX P w) (k + 1) f fd ["wheel", "rule", "one", "other", "about"] (spGap K CW CR CS CN) := by
  refine F.okX scGap (fun vs H Q E h => ?_) (fun cdv A outer s H vs Q E hr h => ?_)
  · obtain ⟨n, a, v1, v2, ab, rfl, _⟩ := h
    rfl
  · obtain ⟨n, a, v1, v2, ab, rfl, xs, sm, hS, hF, e1, e2, q⟩ := h
    have nd := scGap.nd
    have hx := passes_call (X := cxOf (L2.CX P w) P w K mg base ["wheel", "rule", "one", "other", "about", "rest", "low", "_"] "gap" (defScope sGap) f cdv A outer s H E) (E := E) (takes_of (E := E) rfl rfl rfl rfl) (fun _ _ _ _ h => h)
    refine ⟨_, pss_cons (ps_expr (pe_knX DR hr hi hx (pa_cons (pv 0) (pa_cons (pv 1) pa_nil)) rfl))
      (pss_cons (ps_expr (pe_knX DS hr hi hx (pa_cons (pv 0) (pa_cons (pv 1) (pa_cons (pv 2) pa_nil))) rfl))
      (pss_cons (ps_expr (pe_knX DS hr hi hx (pa_cons (pv 0) (pa_cons (pv 1) (pa_cons (pv 3) pa_nil))) rfl))
      (pss_cons (ps_if (pt_cmpR op_eq (pe_ix ix_tup (pv 1) pe_int (fun _ _ => rfl)) pe_str (nomark _)) (pss_one (ps_ret (pe_knX DP hr hi hx (pa_cons (pv 0) (pa_cons (pe_ix ix_tup (pv 1) pe_int (fun _ _ => rfl)) (pa_cons (pv 2) (pa_cons (pv 3) pa_nil)))) rfl))) pss_nil)
      (pss_cons (ps_set (i := 5) nd rfl (.inl rfl) (pe_op op_mod (pe_op op_sub (pv 3) (pv 2)) (pv 0)))
      (pss_cons (ps_if (pt_cmpR op_eq (pe_ix ix_tup (pv 1) pe_int (fun _ _ => rfl)) pe_str (nomark _)) (pss_one (ps_ret (pe_knX DA hr hi hx (pa_cons (pv 0) (pa_cons (pe_ix ix_tup (pv 1) pe_int (fun _ _ => rfl)) (pa_cons (pv 5) (pa_cons (pv 4) pa_nil)))) rfl))) pss_nil)
      (pss_cons (ps_asg (pe_knX DB hr hi hx (pa_cons (pv 0) (pa_cons (pv 1) pa_nil)) rfl) (pg_tup (by rfl) (pgs_cons (pg_name (i := 6) nd rfl (.inl rfl)) (pgs_cons (pg_name (i := 7) nd rfl (.inl rfl)) pgs_nil))))
      (pss_one (ps_ret (pe_kn DL hr hi (pa_cons (pv 0) (pa_cons (pv 6) (pa_cons (pv 5) pa_nil))) rfl))))))))), ?_⟩
    refine ⟨_, rfl, _, rfl, n, a, xs, rfl, sm, hS, hF, e1, e2, fun h1 h2 H' s1 => ?_⟩
    obtain ⟨r, rfl, ok⟩ := rul_of hF h2
    obtain ⟨x, y, hx1, hy1, mx1, mx2, my1, my2, q1, q2, q3⟩ := q r h1 ok rfl
    have hR := s1 _ _ hS
    have hT : SqT K H' a (rulT r) := SqT.of hR
    have np : 0 < n := by have := h1.1; omega
    have n2 := h1.2
    refine ⟨_, rfl, _, rfl, _, rfl, n, a, r, v1, x, rfl, sm, hR, ok, hx1.same s1, mx1, mx2, fun z => q1 z _ s1, fun z1 => ?_⟩
    refine ⟨_, rfl, _, rfl, _, rfl, n, a, r, v2, y, rfl, sm, hR, ok, hy1.same s1, my1, my2, fun z => q2 z1 z _ s1, fun z2 => ?_⟩
    obtain ⟨c, hc, qg, qn⟩ := q3 z1 z2
    have r0 := Int.emod_nonneg (y.1 - x.1) (show n ≠ 0 by omega)
    have r1 := Int.emod_lt_of_pos (y.1 - x.1) np
    cases r with
    | pair o =>
      obtain ⟨p1, rfl, hp1⟩ := hx1.same s1
      obtain ⟨p2, rfl, hp2⟩ := hy1.same s1
      refine ⟨_, rfl, a, _, 0, _, rfl, rfl, hT, rfl, rfl, _, rfl, iteT ?_⟩
      exact ⟨_, rfl, _, rfl, a, _, 1, _, rfl, rfl, hT, rfl, _, rfl, _, rfl, n, o, p1, p2, x, y, rfl, h1, ok, hp1, hp2, z1, z2, fun g hg H'' s2 => qg g hg _ (s1.trans s2), fun hg H'' s2 => qn hg _ (s1.trans s2)⟩
    | up l =>
      obtain rfl : v1 = .int x.1 := hx1
      obtain rfl : v2 = .int y.1 := hy1
      refine ⟨_, rfl, a, _, 0, _, rfl, rfl, hT, rfl, rfl, _, rfl, iteF ?_⟩
      refine ⟨_, rfl, _, rfl, _, _, rfl, rfl, _, rfl, _, _, rfl, rfl, np, ?_⟩
      refine ⟨_, rfl, a, _, 0, _, rfl, rfl, hT, rfl, rfl, _, rfl, iteF ?_⟩
      refine ⟨_, rfl, _, rfl, n, a, rfl, RulIn.ok h1 ok hR fun H2 p s2 _ ep => ?_⟩
      refine ⟨p, _, rfl, SqT.of ep, rfl, _, _, rfl, _, _, rfl, rfl, ?_⟩
      exact ⟨_, rfl, _, rfl, _, rfl, n, _, _, rfl, np, qg _ (gap_up (d := (y.1 - x.1, y.2 - x.2)) h1 ⟨fun _ z => (nomatch z), fun _ z => (nomatch z)⟩ rfl) _ (s1.trans s2)⟩
    | near =>
      obtain rfl : v1 = .int x.1 := hx1
      obtain rfl : v2 = .int y.1 := hy1
      refine ⟨_, rfl, a, _, 0, _, rfl, rfl, hT, rfl, rfl, _, rfl, iteF ?_⟩
      refine ⟨_, rfl, _, rfl, _, _, rfl, rfl, _, rfl, _, _, rfl, rfl, np, ?_⟩
      refine ⟨_, rfl, a, _, 0, _, rfl, rfl, hT, rfl, rfl, _, rfl, iteF ?_⟩
      refine ⟨_, rfl, _, rfl, n, a, rfl, RulIn.ok h1 ok hR fun H2 p s2 _ ep => ?_⟩
      refine ⟨p, _, rfl, SqT.of ep, rfl, _, _, rfl, _, _, rfl, rfl, ?_⟩
      exact ⟨_, rfl, _, rfl, _, rfl, n, _, _, rfl, np, qg _ (gap_up (d := (y.1 - x.1, y.2 - x.2)) h1 ⟨fun _ z => (nomatch z), fun _ z => (nomatch z)⟩ rfl) _ (s1.trans s2)⟩
    | about f =>
      obtain rfl : v1 = .int x.1 := hx1
      obtain rfl : v2 = .int y.1 := hy1
      obtain ⟨rfl, mc⟩ := hc f rfl
      refine ⟨_, rfl, a, _, 0, _, rfl, rfl, hT, rfl, rfl, _, rfl, iteF ?_⟩
      refine ⟨_, rfl, _, rfl, _, _, rfl, rfl, _, rfl, _, _, rfl, rfl, np, ?_⟩
      refine ⟨_, rfl, a, _, 0, _, rfl, rfl, hT, rfl, rfl, _, rfl, iteT ?_⟩
      exact ⟨_, rfl, _, rfl, a, _, 1, _, rfl, rfl, hT, rfl, _, rfl, _, rfl, n, f, _, c, rfl, np, mc, ⟨by omega, by omega⟩, fun hle => qg _ (gap_about (d := (y.1 - x.1, y.2 - x.2)) h1 hle) _ s1, fun hlt => qn (gap_about_no (d := (y.1 - x.1, y.2 - x.2)) h1 hlt) _ s1⟩
end

abbrev sJudged : Stmt := topS 31
theorem scJudged : FnScope ["wheel", "rule", "least", "most", "low", "high"] ["wheel", "rule", "least", "most"] (defScope sJudged) := ⟨rfl, rfl, rfl, by decide +kernel, rfl, by decide +kernel, by decide +kernel⟩
section
variable {P : Program} {w : World} {K : PySem.W.Frag} {mg : Str → Option Value} {base : Heap}
theorem ok_judged {f CW CR CG : Addr} {fd : FuncData} {k i : Nat} (F : Fun K "judged" "judged" sJudged f fd) (D : Kn P w K mg base (L2.CX P w) i "bound" ["wheel", "rule"] (spBound K CW CR)) (hi : i ≤ k) (gm : mg "max" = none) (T : Rf K mg "BadGaps" CG) :
    FnOk P w K mg base (L2.CX P w) (k + 1) f fd ["wheel", "rule", "least", "most"] (spJudged K CW CR CG) := by
  refine F.okX scJudged (fun vs H Q E h => ?_) (fun cdv A outer s H vs Q E hr h => ?_)
  · obtain ⟨n, a, l, m, rfl, _⟩ := h
    rfl
  · obtain ⟨n, a, l, m, rfl, sl, sm2, xs, sm, hS, hF, e1, e2, q⟩ := h
    have nd := scJudged.nd
    have hx := passes_call (X := cxOf (L2.CX P w) P w K mg base ["wheel", "rule", "least", "most", "low", "high"] "judged" (defScope sJudged) f cdv A outer s H E) (E := E) (takes_of (E := E) rfl rfl rfl rfl) (fun _ _ _ _ h => h)
    refine ⟨_, pss_cons (ps_asg (pe_knX D hr hi hx (pa_cons (pv 0) (pa_cons (pv 1) pa_nil)) rfl) (pg_tup (by rfl) (pgs_cons (pg_name (i := 4) nd rfl (.inl rfl)) (pgs_cons (pg_name (i := 5) nd rfl (.inl rfl)) pgs_nil))))
      (pss_cons (ps_if (pt_cmpR op_gt (pv 2) (pv 3) (nomark _)) (pss_one (ps_rf rfl T (takes_of rfl rfl rfl rfl) rfl (pe_joined (.cons pe_str (.cons (pe_fmt (pv 2)) (.cons pe_str (.cons (pe_fmt (pv 3)) .nil))))))) pss_nil)
      (pss_cons (ps_if (pt_cmpR op_lt (pv 2) (pv 4) (nomark _)) (pss_one (ps_ret (pe_tup (pa_cons pe_str (pa_cons (pv 2) pa_nil))))) pss_nil)
      (pss_cons (ps_if (pt_cmpR op_le (pv 3) (pv 5) (nomark _)) (pss_one (ps_ret (pe_tup (pa_cons pe_str pa_nil)))) pss_nil)
      (pss_one (ps_ret (pe_tup (pa_cons pe_str (pa_cons (pe_callB (call_max2 (by rfl)) (by rfl) gm (by decide +kernel) (pa_cons (pv 2) (pa_cons (pe_op op_add (pv 5) pe_int) pa_nil))) pa_nil)))))))), ?_⟩
    refine ⟨_, rfl, _, rfl, n, a, rfl, xs, sm, hS, hF, e1, e2, fun r h1 ok er H1 p s1 _ ep => ?_⟩
    obtain ⟨q1, q2⟩ := q r h1 ok er
    refine ⟨p, _, rfl, SqT.of ep, rfl, _, _, rfl, _, _, rfl, rfl, ?_⟩
    refine ⟨_, rfl, _, rfl, _, _, rfl, rfl, _, rfl, ite2 (fun e => ?_) (fun e => ?_)⟩
    · have h : m < l := of_decide_eq_true e
      exact tJs4 (i := 2) (j := 3) (a := "no gaps from ") (b := " to ") rfl rfl (by decide +kernel) (by decide +kernel) sl sm2 fun _ => q1 h _ s1
    have h : ¬ m < l := fun z => e (decide_eq_true z)
    have q2 := q2 (by omega)
    have fin : ∀ (H2 : Hp) (p : Addr), Same H1 H2 → H1 p = none → H2 p = some (.tup (jud n r l m)) → Q (.ref p) H2 := fun H2 p s2 np hp => q2 _ p (s1.trans s2) (s1.free np) hp
    unfold jud at fin
    refine ⟨_, rfl, _, rfl, _, _, rfl, rfl, _, rfl, ite2 (fun e => ?_) (fun e => ?_)⟩
    · have h2 : l < (bd n r).1 := of_decide_eq_true e
      rw [if_pos h2] at fin
      exact ⟨_, rfl, by show 2 ≤ sizeLine; decide, fun p2 hp2 => fin _ p2 (same_new hp2) hp2 upd_same⟩
    rw [if_neg (fun z => e (decide_eq_true z))] at fin
    refine ⟨_, rfl, _, rfl, _, _, rfl, rfl, _, rfl, ite2 (fun e => ?_) (fun e => ?_)⟩
    · have h2 : m ≤ (bd n r).2 := of_decide_eq_true e
      rw [if_pos h2] at fin
      exact ⟨by show 1 ≤ sizeLine; decide, fun p2 hp2 => fin _ p2 (same_new hp2) hp2 upd_same⟩
    rw [if_neg (fun z => e (decide_eq_true z))] at fin
    exact ⟨_, rfl, _, rfl, _, _, rfl, rfl, l, _, rfl, by show 2 ≤ sizeLine; decide, fun p2 hp2 => fin _ p2 (same_new hp2) hp2 upd_same⟩
end


end K2

namespace K2
open PySem PySem.Spec PyProof.Rows L2 LamX NdefX Lx
abbrev sRdInit : Stmt := inClass (topS 33) 0
theorem scRdInit : FnScope ["self", "wheel", "rule", "begun"] ["self", "wheel", "rule", "begun"] (defScope sRdInit) := ⟨rfl, rfl, rfl, by decide +kernel, rfl, by decide +kernel, by decide +kernel⟩
section
variable {P : Program} {w : World} {K : PySem.W.Frag} {mg : Str → Option Value} {base : Heap}
theorem ok_rdInit {f C CW CR : Addr} {fd : FuncData} {k i : Nat} (F : Fun K "__init__" "Reader.__init__" sRdInit f fd) (T : RdTxt K C) (D : Kn P w K mg base (L2.CX P w) i "check_rule" ["wheel", "rule"] (spCheckRule K CW CR)) (hi : i ≤ k) :
    FnOk P w K mg base (L2.CX P w) (k + 1) f fd ["self", "wheel", "rule", "begun"] (spRdInit C CW CR K) := by
  refine F.okX scRdInit (fun vs H Q E h => ?_) (fun cdv A outer s H vs Q E hr h => ?_)
  · obtain ⟨p, dx, n, a, t, rfl, _⟩ := h
    rfl
  · obtain ⟨p, dx, n, a, t, rfl, hp, xs, sm, hS, hF, e1, e2, q⟩ := h
    have hx := passes_call (X := cxOf (L2.CX P w) P w K mg base ["self", "wheel", "rule", "begun"] "Reader.__init__" (defScope sRdInit) f cdv A outer s H E) (E := E) (takes_of (E := E) rfl rfl rfl rfl) (fun _ _ _ _ h => h)
    refine ⟨_, pss_cons (ps_expr (pe_knX D hr hi hx (pa_cons (pv 1) (pa_cons (pv 2) pa_nil)) rfl))
      (pss_cons (ps_fld (pv 0) (pv 1) rfl) (pss_cons (ps_fld (pv 0) (pv 2) rfl) (pss_one (ps_fld (pv 0) (pv 3) rfl)))), ?_⟩
    refine ⟨_, rfl, _, rfl, n, a, xs, rfl, sm, hS, hF, e1, e2, fun h1 h2 H' s1 => ?_⟩
    obtain ⟨r, rfl, ok⟩ := rul_of hF h2
    have q := q r h1 ok rfl
    have ap : a ≠ p := ne_of hS hp (by intro z; cases z)
    refine ⟨_, rfl, _, rfl, p, C, dx, _, rfl, s1 _ _ hp, T.cl, T.nW, by show 0 < 1000; decide, ?_⟩
    refine ⟨_, rfl, _, rfl, p, C, dx, _, rfl, upd_same, T.cl, T.nR, by show 1 < 1000; decide, ?_⟩
    refine ⟨_, rfl, _, rfl, p, C, dx, _, rfl, upd_same, T.cl, T.nT, ?_, ?_⟩
    · have e : putF "_rule" (V.ref a) (putF "_wheel" (V.int n) []) = ([("_wheel", V.int n), ("_rule", V.ref a)] : List (Str × V)) := by
        show (if ("_wheel" : Str) = "_rule" then _ else (("_wheel" : Str), V.int n) :: putF "_rule" (V.ref a) []) = _
        rw [if_neg kWR]; rfl
      rw [e]; show 2 < 1000; decide
    · refine q _ (fun b o hb e => ?_) ⟨⟨dx, upd_same⟩, ?_, h1, ok⟩
      · rw [upd_ne hb, upd_ne hb, upd_ne hb]; exact s1 _ _ e
      · rw [upd_ne ap, upd_ne ap, upd_ne ap]; exact s1 _ _ hS
end

abbrev sRdLook : Stmt := inClass (topS 33) 1
theorem scRdLook : FnScope ["self", "seen", "about", "before", "length"] ["self", "seen", "about"] (defScope sRdLook) := ⟨rfl, rfl, rfl, by decide +kernel, rfl, by decide +kernel, by decide +kernel⟩
section
variable {P : Program} {w : World} {K : PySem.W.Frag} {mg : Str → Option Value} {base : Heap}
theorem ok_rdLook {f C CW CR CS CN : Addr} {fd : FuncData} {k i : Nat} (F : FunD K "look" "Reader.look" (defArgs sRdLook) (defBody sRdLook) (defScope sRdLook) [.non] [] f fd) (T : RdTxt K C)
    (DS : Kn P w K mg base (L2.CX P w) i "shown" ["wheel", "rule", "time"] (spShown K CW CR)) (DG : Kn P w K mg base (L2.CX P w) i "gap" ["wheel", "rule", "one", "other", "about"] (spGap K CW CR CS CN)) (hi : i ≤ k) :
    FnOk P w K mg base (L2.CX P w) (k + 1) f fd ["self", "seen", "about"] (spRdLook K C CS CN) := by
  refine F.ok scRdLook (fun vs H Q E h => ?_) (fun cdv A outer s H vs Q E hr h => ?_)
  · obtain ⟨p, v, ab, n, ra, r, t, sn, rfl, _⟩ := h
    rfl
  · obtain ⟨p, v, ab, n, ra, r, t, sn, rfl, R, hsn, sm1, sm2, qs, q⟩ := h
    have nd := scRdLook.nd
    obtain ⟨⟨dx, hp⟩, hR, h1, ok⟩ := id R
    have hx := passes_call (X := cxOf (L2.CX P w) P w K mg base ["self", "seen", "about", "before", "length"] "Reader.look" (defScope sRdLook) f cdv A outer s H E) (E := E) (takes_of (E := E) rfl rfl rfl rfl) (fun _ _ _ _ h => h)
    refine ⟨_, pss_cons (ps_set (i := 3) nd rfl (.inl rfl) (pe_knX DS hr hi hx (pa_cons (pe_fld (pv 0) rfl) (pa_cons (pe_fld (pv 0) rfl) (pa_cons (pe_fld (pv 0) rfl) pa_nil))) rfl))
      (pss_cons (ps_set (i := 4) nd rfl (.inl rfl) (pe_knX DG hr hi hx (pa_cons (pe_fld (pv 0) rfl) (pa_cons (pe_fld (pv 0) rfl) (pa_cons (pv 3) (pa_cons (pv 1) (pa_cons (pv 2) pa_nil))))) rfl))
      (pss_cons (ps_fld (pv 0) (pe_op op_add (pe_fld (pv 0) rfl) (pv 4)) rfl)
      (pss_one (ps_ret (pe_fld (pv 0) rfl))))), ?_⟩
    refine ⟨_, rfl, p, C, dx, _, _, rfl, hp, T.cl, T.nW, rflds_wheel _ _ _, _, rfl, p, C, dx, _, _, rfl, hp, T.cl, T.nR, rflds_rule _ _ _, _, rfl, p, C, dx, _, _, rfl, hp, T.cl, T.nT, rflds_told _ _ _, n, ra, t, rfl, RulIn.ok h1 ok hR fun H1 v1 s1 hv1 => ?_⟩
    have hp1 := s1 _ _ hp
    obtain ⟨m1, m2⟩ := shok_sm (s := t) h1 ok
    refine ⟨_, rfl, p, C, dx, _, _, rfl, hp1, T.cl, T.nW, rflds_wheel _ _ _, _, rfl, p, C, dx, _, _, rfl, hp1, T.cl, T.nR, rflds_rule _ _ _, v1, rfl, v, rfl, ab, rfl, n, ra, v1, v, ab, rfl, RulIn.ok h1 ok (s1 _ _ hR) ⟨shS n r t, sn, hv1, hsn.same s1, m1, m2, sm1, sm2, fun z => absurd (sh_ok h1 ok) z, fun _ z H2 s2 => qs z _ (s1.trans s2), fun _ z => ?_⟩⟩
    obtain ⟨c, hc, qg, qn⟩ := q z
    refine ⟨c, hc, fun g hg H2 s2 => ?_, fun hn H2 s2 => qn hn _ (s1.trans s2)⟩
    have hp2 := s2 _ _ hp1
    refine ⟨_, rfl, p, C, dx, _, _, rfl, hp2, T.cl, T.nT, rflds_told _ _ _, _, rfl, _, _, rfl, rfl, _, rfl, p, C, dx, _, rfl, hp2, T.cl, T.nT, by rw [rflds_eq]; show 3 < 1000; decide, ?_⟩
    have e3 : upd H2 p (.ins C dx (putF "_told" (.int (t + g)) (rflds n ra t))) p = some (.ins C dx (rflds n ra (t + g))) := by rw [upd_same, rflds_put]
    refine ⟨_, rfl, p, C, dx, _, _, rfl, e3, T.cl, T.nT, rflds_told _ _ _, ?_⟩
    have s12 := s1.trans s2
    have rp : ra ≠ p := ne_of hR hp (by intro z; cases z)
    exact qg g hg _ (fun b o hb e => by rw [upd_ne hb]; exact s12 _ _ e) ⟨⟨dx, e3⟩, by rw [upd_ne rp]; exact s12 _ _ hR, h1, ok⟩
end

abbrev sTells : Stmt := topS 36
theorem scTells : FnScope ["reader", "seen", "about", "time"] ["reader", "seen", "about", "time"] (defScope sTells) := ⟨rfl, rfl, rfl, by decide +kernel, rfl, by decide +kernel, by decide +kernel⟩
section
variable {P : Program} {w : World} {K : PySem.W.Frag} {mg : Str → Option Value} {base : Heap}
theorem ok_tells {f C CS CN : Addr} {fd : FuncData} {k i : Nat} (F : Fun K "_tells" "_tells" sTells f fd) (D : KnM P w K mg base (L2.CX P w) i C "look" ["self", "seen", "about"] [] (spRdLook K C CS CN)) (hi : i ≤ k)
    (gN : mg "NoGap" = some (.ref CN)) (eN : PySem.W.exmOne K (.ref CN) (.ref CN) = some true) : FnOk P w K mg base CX0 (k + 1) f fd ["reader", "seen", "about", "time"] (spTells K C) := by
  refine F.ok scTells (fun vs H Q E h => ?_) (fun cdv A outer s H vs Q E hr h => ?_)
  · obtain ⟨p, v, ab, tm, n, ra, r, t, sn, c, rfl, _⟩ := h
    rfl
  · obtain ⟨p, v, ab, tm, n, ra, r, t, sn, c, rfl, R, hsn, sm1, sm2, ho, hc, qg, qn⟩ := h
    refine ⟨_, pss_one (ps_try_only rfl rfl ⟨rfl, by decide, .inl gN⟩ L2.takes0 (fun W pn xe tk _ => pss_one (ps_ret (pe_cmpR op_eq (pe_methS (pv 0) D hr hi (fun σ => passAt tk σ) (pa_cons (pv 1) (pa_cons (pv 2) pa_nil))) (pv 3) (nomark _))))
      (fun a oe cls d pn _ _ => pss_one (ps_ret pe_bl))), ?_⟩
    obtain ⟨dx, hp⟩ := R.ob
    refine ⟨_, rfl, p, dx, _, rfl, hp, rflds_look _ _ _, v, rfl, ab, rfl, p, v, ab, n, ra, r, t, sn, rfl, R, hsn, sm1, sm2, fun z => absurd ho z, fun _ => ⟨c, hc, fun g hg H' u R' => ?_, fun hn H' s1 => ?_⟩⟩
    · refine ⟨_, rfl, rfl, ?_⟩
      rw [show decide (V.int (t + g) = V.int tm) = decide (t + g = tm) from decide_eq_decide.mpr ⟨fun z => V.int.inj z, fun z => congrArg V.int z⟩]
      exact qg g hg H' u R'
    · exact ⟨true, eN, fun _ a ha => qn hn _ s1, fun z => nomatch z⟩
end


end K2

namespace K2
open PySem PySem.Spec PyProof.Rows L2 LamX NdefX Lx
abbrev sCheckCounts : Stmt := topS 35
theorem scCheckCounts : FnScope ["rule", "times", "abouts", "wanted"] ["rule", "times", "abouts"] (defScope sCheckCounts) := ⟨rfl, rfl, rfl, by decide +kernel, rfl, by decide +kernel, by decide +kernel⟩
section
variable {P : Program} {w : World} {K : PySem.W.Frag} {mg : Str → Option Value} {base : Heap}
theorem ok_checkCounts {f CG : Addr} {fd : FuncData} {k : Nat} (F : Fun K "_check_counts" "_check_counts" sCheckCounts f fd) (gl : mg "len" = none) (T : Rf K mg "BadGaps" CG) : FnOk P w K mg base (L2.CX P w) (k + 1) f fd ["rule", "times", "abouts"] (spCheckCounts K CG) := by
  refine F.okX scCheckCounts (fun vs H Q E h => ?_) (fun cdv A outer s H vs Q E hr h => ?_)
  · obtain ⟨a, pt, pa, r, ts, as, rfl, _⟩ := h
    rfl
  · obtain ⟨a, pt, pa, r, ts, as, rfl, hR, hT, hA, lt, la, q1, q2⟩ := h
    have nd := scCheckCounts.nd
    refine ⟨_, pss_cons (ps_if (pt_not (pt_truth (pv 1) (by intro _; rfl))) (pss_one (ps_rf rfl T (takes_of rfl rfl rfl rfl) rfl pe_str)) pss_nil)
      (C8.pss_cut (ps_set (i := 3) nd rfl (.inl rfl) (pe_ifExp (pt_cmpR op_eq (pe_ix ix_tup (pv 0) pe_int (fun _ _ => rfl)) pe_str (nomark _)) (pe_op op_sub (pe_callB call_len_seq (by rfl) gl PySem.boot_len (pa_cons (pv 1) pa_nil)) pe_int) pe_int))
      (pss_one (ps_if (pt_cmpR op_ne (pe_callB call_len_seq (by rfl) gl PySem.boot_len (pa_cons (pv 2) pa_nil)) (pv 3) (nomark _))
        (pss_one (ps_rf rfl T (takes_of rfl rfl rfl rfl) rfl (pe_joined (.cons (pe_fmt (pv 3)) (.cons pe_str (.cons (pe_fmt (pe_callB call_len_seq (by rfl) gl PySem.boot_len (pa_cons (pv 2) pa_nil))) .nil)))))) pss_nil))), ?_⟩
    refine ⟨.ref pt, rfl, !(ts.map V.int).isEmpty, .inl ⟨_, hT, rfl⟩, ?_⟩
    cases ts with
    | nil => exact iteT (q1 (.inl rfl))
    | cons t0 tr =>
    refine iteF ?_
    generalize hts : t0 :: tr = ts at *
    have tne : ts ≠ [] := by rw [← hts]; exact fun z => nomatch z
    have hRT : SqT K H a (rulT r) := SqT.of hR
    refine ⟨fun σ' H' => σ' = [some (.ref a), some (.ref pt), some (.ref pa), some (.int (wanted r ts.length))] ∧ H' = H, ?_, ?_⟩
    · have el : ((ts.map V.int).length : Int) = (ts.length : Int) := by rw [List.length_map]
      cases r with
      | about fo =>
        refine ⟨_, rfl, a, _, 0, _, rfl, rfl, hRT, rfl, rfl, _, rfl, iteT ?_⟩
        refine ⟨.ref pt, rfl, pt, _, rfl, .inl hT, _, _, rfl, rfl, ?_, rfl⟩
        show [some (V.ref a), some (.ref pt), some (.ref pa), some (.int (((ts.map V.int).length : Int) - 1))] = [some (V.ref a), some (.ref pt), some (.ref pa), some (.int ((ts.length : Int) - 1))]
        rw [el]
      | up l => exact ⟨_, rfl, a, _, 0, _, rfl, rfl, hRT, rfl, rfl, _, rfl, iteF ⟨rfl, rfl⟩⟩
      | near => exact ⟨_, rfl, a, _, 0, _, rfl, rfl, hRT, rfl, rfl, _, rfl, iteF ⟨rfl, rfl⟩⟩
      | pair o => exact ⟨_, rfl, a, _, 0, _, rfl, rfl, hRT, rfl, rfl, _, rfl, iteF ⟨rfl, rfl⟩⟩
    rintro σ' H' ⟨rfl, rfl⟩
    have ea : ((as.map V.int).length : Int) = (as.length : Int) := by rw [List.length_map]
    have w0 : -1 ≤ wanted r ts.length ∧ wanted r ts.length ≤ 1000 := by
      cases r with
      | about fo => show -1 ≤ (ts.length : Int) - 1 ∧ (ts.length : Int) - 1 ≤ 1000; omega
      | up l => show -1 ≤ (0 : Int) ∧ (0 : Int) ≤ 1000; omega
      | near => show -1 ≤ (0 : Int) ∧ (0 : Int) ≤ 1000; omega
      | pair o => show -1 ≤ (0 : Int) ∧ (0 : Int) ≤ 1000; omega
    refine ⟨.ref pa, rfl, pa, _, rfl, .inl hA, .int (wanted r ts.length), rfl, rfl, _, rfl, ite2 (fun e => ?_) (fun e => ?_)⟩
    · have h : ¬ V.int ((as.map V.int).length : Int) = V.int (wanted r ts.length) := by simpa using e
      rw [ea] at h
      have h2 : (as.length : Int) ≠ wanted r ts.length := fun z => h (congrArg V.int z)
      have l1 : (wanted r ts.length).natAbs.log2 < 1920 := Sm.log ⟨by omega, by omega⟩
      have l2 : (((as.map V.int).length : Nat) : Int).natAbs.log2 < 1920 := by
        rw [List.length_map]
        exact Sm.log ⟨by omega, by omega⟩
      have f0 : Str.empty.length ≤ 1000 := by decide +kernel
      have f1 := str_fit f0 (int_text_len_1921 l1)
      have f2 := str_fit f1 (show (" abouts are asked for, not " : Str).length ≤ 1000 by decide +kernel)
      have f3 := str_fit f2 (int_text_len_1921 l2)
      exact ⟨_, rfl, .inr ⟨_, rfl, l1, _, rfl, fit f1 (by decide), _, rfl, fit f2 (by decide), .ref pa, rfl, pa, _, rfl, .inl hA, .inr ⟨_, rfl, l2, _, rfl, fit f3 (by decide), q1 (.inr h2)⟩⟩⟩
    · have h : V.int ((as.map V.int).length : Int) = V.int (wanted r ts.length) := by simpa using e
      rw [ea] at h
      exact q2 tne (V.int.inj h)
end

abbrev sFirstWrong : Stmt := topS 34
abbrev NFW : List Str := ["wheel", "rule", "times", "abouts", "reader", "number", "time", "about"]
theorem scFirstWrong : FnScope NFW ["wheel", "rule", "times", "abouts"] (defScope sFirstWrong) := ⟨rfl, rfl, rfl, by decide +kernel, rfl, by decide +kernel, by decide +kernel⟩
section
variable {P : Program} {w : World} {K : PySem.W.Frag} {mg : Str → Option Value} {base : Heap}
theorem ok_firstWrong {f C CW CR CG : Addr} {fd : FuncData} {k i : Nat} (F : Fun K "first_wrong" "first_wrong" sFirstWrong f fd) (DR : Kn P w K mg base (L2.CX P w) i "check_rule" ["wheel", "rule"] (spCheckRule K CW CR))
    (DC : Kn P w K mg base (L2.CX P w) i "_check_counts" ["rule", "times", "abouts"] (spCheckCounts K CG)) (DI : KnI P w K mg base (L2.CX P w) i C "Reader" ["self", "wheel", "rule", "begun"] (spRdInit C CW CR K))
    (DS : Kn P w K mg base (L2.CX P w) i "shown" ["wheel", "rule", "time"] (spShown K CW CR)) (DT : Kn P w K mg base CX0 (i + 1) "_tells" ["reader", "seen", "about", "time"] (spTells K C)) (hi : i + 1 ≤ k) (gl : mg "len" = none) (gr : mg "range" = none) :
    FnOk P w K mg base (L2.CX P w) (k + 1) f fd ["wheel", "rule", "times", "abouts"] (spFirstWrong K CW CR CG) := by
  refine F.okX scFirstWrong (fun vs H Q E h => ?_) (fun cdv A outer s H vs Q E hr h => ?_)
  · obtain ⟨n, a, pt, pa, ts, as, rfl, _⟩ := h
    rfl
  · obtain ⟨n, a, pt, pa, ts, as, rfl, hT, hA, lt, la, sma, xs, sm, hS, hF, e1, e2, q⟩ := h
    have nd := scFirstWrong.nd
    have hi0 : i ≤ k := by omega
    have hx := passes_call (X := cxOf (L2.CX P w) P w K mg base NFW "first_wrong" (defScope sFirstWrong) f cdv A outer s H E) (E := E) (takes_of (E := E) rfl rfl rfl rfl) (fun _ _ _ _ h => h)
    refine ⟨_, pss_cons (ps_expr (pe_knX DR hr hi0 hx (pa_cons (pv 0) (pa_cons (pv 1) pa_nil)) rfl))
      (pss_cons (ps_expr (pe_knX DC hr hi0 hx (pa_cons (pv 1) (pa_cons (pv 2) (pa_cons (pv 3) pa_nil))) rfl))
      (pss_cons (ps_set (i := 4) nd rfl (.inl rfl) (pe_new DI hr hi hx (pa_cons (pv 0) (pa_cons (pv 1) (pa_cons (pe_ix ix_list (pv 2) pe_int (fun _ _ => rfl)) pa_nil))) rfl))
      (pss_cons (ps_for (passes_of rfl) rfl (pi_range2 (by rfl) gr (pa_cons pe_int (pa_cons (pe_callB call_len_seq (by rfl) gl PySem.boot_len (pa_cons (pv 2) pa_nil)) pa_nil))) (pg_name (i := 5) nd rfl (.inl rfl))
        (pss_cons (ps_set (i := 6) nd rfl (.inl rfl) (pe_ix ix_list (pv 2) (pv 5) (fun _ _ => rfl)))
        (C8.pss_cut (ps_set (i := 7) nd rfl (.inl rfl) (pe_ifExp (pt_truth (pv 3) (by intro _; rfl)) (pe_ix ix_list (pv 3) (pe_op op_sub (pv 5) pe_int) (fun _ _ => rfl)) pe_non))
        (pss_one (ps_if (pt_not (pt_val (pe_kn DT hr hi (pa_cons (pv 4) (pa_cons (pe_knX DS hr hi0 hx (pa_cons (pv 0) (pa_cons (pv 1) (pa_cons (pv 6) pa_nil))) rfl) (pa_cons (pv 7) (pa_cons (pv 6) pa_nil)))) rfl))) (pss_one (ps_ret (pv 5))) pss_nil)))))
      (pss_one (ps_ret pe_non))))), ?_⟩
    have s0 : Same H H := .refl _
    refine ⟨_, rfl, _, rfl, n, a, xs, rfl, sm, hS, hF, e1, e2, fun h1 h2 H1 s1 => ?_⟩
    obtain ⟨r, rfl, ok⟩ := rul_of hF h2
    obtain ⟨qb, qg⟩ := q r h1 ok rfl
    refine ⟨_, rfl, _, rfl, _, rfl, a, pt, pa, r, ts, as, rfl, s1 _ _ hS, s1.seq hT, s1.seq hA, lt, la, fun z => qb z _ s1, fun hne hw => ?_⟩
    have qg := qg hne hw
    obtain ⟨t0, tr, rfl⟩ : ∃ t0 tr, ts = t0 :: tr := by
      cases ts with
      | nil => exact absurd rfl hne
      | cons t0 tr => exact ⟨t0, tr, rfl⟩
    generalize hts : t0 :: tr = ts at *
    have hl : 0 < ts.length := by rw [← hts]; show 0 < tr.length + 1; omega
    have h00 : ts.getD 0 0 = t0 := by rw [← hts]; rfl
    refine ⟨_, rfl, _, rfl, .ref pt, rfl, pt, _, 0, .int (ts.getD 0 0), rfl, rfl, s1.seq hT, at_ints hl, fun x dx nx ndx nex => ?_⟩
    have sA : Same H1 (upd (upd H1 dx (.own x)) x (.ins C dx [])) := fun b o e => by
      rw [upd_ne (ne_of_none e nx), upd_ne (ne_of_none e ndx)]
      exact e
    have eA : upd (upd H1 dx (.own x)) x (.ins C dx []) x = some (.ins C dx []) := upd_same
    generalize upd (upd H1 dx (.own x)) x (.ins C dx []) = HA at sA eA ⊢
    refine ⟨x, dx, n, a, ts.getD 0 0, rfl, eA, RulIn.ok h1 ok (sA _ _ (s1 _ _ hS)) fun H2 u2 R2 => ⟨rfl, ?_⟩⟩
    have s2 : Same H H2 := fun b o e => u2 b o (ne_of_none (s1 b o e) nx) (sA b o (s1 b o e))
    have nxH : H x = none := s1.free nx
    have el : ((ts.map V.int).length : Int) = (ts.length : Int) := by rw [List.length_map]
    refine ⟨.ref pt, rfl, pt, _, rfl, .inl (s2.seq hT), 1, _, rfl, ⟨by decide, by decide, ?_, ?_⟩, ?_⟩
    · rw [el]; omega
    · rw [el]; omega
    have eN : (((ts.map V.int).length : Int) - 1).toNat = ts.length - 1 := by rw [el]; omega
    show ∃ W : Nat → Nat → L2.St → Hp → Prop, _
    rw [eN]
    refine for_range (lo := 1) (n := ts.length - 1) (fun i σ H' => (∃ y5 y6 y7, σ = [some (.int n), some (.ref a), some (.ref pt), some (.ref pa), some (.ref x), y5, y6, y7]) ∧ Same H H' ∧ RdAt C H' x n a r (ts.getD i 0) ∧ ∀ j, j < i → (fun j => !rightB n r ts as j) j = false)
      ⟨⟨_, _, _, rfl⟩, s2, R2, fun _ z => absurd z (by omega)⟩ ?_ ?_
    · rintro i σ H3 hi ⟨⟨y5, y6, y7, rfl⟩, s3, R3, before⟩
      have i1 : (1 : Int) + (i : Int) = ((i + 1 : Nat) : Int) := by omega
      have at1 : atI (ts.map V.int) (1 + (i : Int)) = some (.int (ts.getD (i + 1) 0)) := by rw [i1]; exact at_ints (by omega)
      refine ⟨_, rfl, _, rfl, pt, _, _, .int (ts.getD (i + 1) 0), rfl, rfl, s3.seq hT, at1, ?_⟩
      refine ⟨fun σ' H' => H' = H3 ∧ ∃ ab, σ' = [some (.int n), some (.ref a), some (.ref pt), some (.ref pa), some (.ref x), some (.int (1 + (i : Int))), some (.int (ts.getD (i + 1) 0)), some ab] ∧ (∀ f, r = .about f → ab = .int (as.getD i 0) ∧ Sm (as.getD i 0)), ?_, ?_⟩
      · refine ⟨.ref pa, rfl, !(as.map V.int).isEmpty, .inl ⟨_, s3.seq hA, rfl⟩, ?_⟩
        by_cases za : as = []
        · have e0 : (!(as.map V.int).isEmpty) = false := by rw [za]; rfl
          rw [e0]
          refine iteF ⟨rfl, _, rfl, fun f hf => ?_⟩
          rw [hf, za] at hw
          have hw : (0 : Int) = (ts.length : Int) - 1 := hw
          omega
        · have e0 : (!(as.map V.int).isEmpty) = true := by
            cases as with
            | nil => exact absurd rfl za
            | cons _ _ => rfl
          rw [e0]
          have ha0 : 0 < as.length := by
            cases as with
            | nil => exact absurd rfl za
            | cons _ _ => exact Nat.succ_pos _
          obtain ⟨fo, hfo⟩ : ∃ fo, r = .about fo := by
            cases r with
            | about fo => exact ⟨fo, rfl⟩
            | up l => have hw : (as.length : Int) = 0 := hw; omega
            | near => have hw : (as.length : Int) = 0 := hw; omega
            | pair o => have hw : (as.length : Int) = 0 := hw; omega
          have hlen : (as.length : Int) = (ts.length : Int) - 1 := by rw [hfo] at hw; exact hw
          have ia : i < as.length := by omega
          refine iteT ⟨.ref pa, rfl, .int (1 + (i : Int)), rfl, _, _, rfl, rfl, pa, _, _, .int (as.getD i 0), rfl, rfl, s3.seq hA, ?_, rfl, _, rfl, fun f _ => ⟨rfl, ?_⟩⟩
          · rw [show (1 : Int) + (i : Int) - 1 = (i : Int) by omega]; exact at_ints ia
          · refine sma _ ?_
            rw [List.getD_eq_getElem?_getD, List.getElem?_eq_getElem ia]
            exact List.getElem_mem ia
      rintro σ4 H4 ⟨rfl, ab, rfl, hab⟩
      obtain ⟨m1, m2⟩ := shok_sm (s := ts.getD (i + 1) 0) h1 ok
      refine ⟨_, rfl, _, rfl, _, rfl, _, rfl, n, a, _, rfl, RulIn.ok h1 ok R3.ru fun H5 v5 s5 hv5 => ?_⟩
      have fit0 : Fits n r ((shS n r (ts.getD (i + 1) 0)).1 - (shS n r (ts.getD i 0)).1, (shS n r (ts.getD (i + 1) 0)).2 - (shS n r (ts.getD i 0)).2) (ts.getD (i + 1) 0 - ts.getD i 0) := by
        have h := sh_fits (n := n) (t := ts.getD i 0) (f := ts.getD (i + 1) 0 - ts.getD i 0) (r := r)
        rwa [show ts.getD i 0 + (ts.getD (i + 1) 0 - ts.getD i 0) = ts.getD (i + 1) 0 by omega] at h
      have wrong : (!rightB n r ts as i) = true → ∀ H', Same H H' → Q (.int (1 + (i : Int))) H' := fun z H' s' => by
        have ef : fwP n r ts as = some i := firstP_of hi z before
        rw [ef] at qg
        rw [i1]
        exact qg H' s'
      refine ⟨ab, rfl, _, rfl, x, v5, ab, ts.getD (i + 1) 0, n, a, r, ts.getD i 0, shS n r (ts.getD (i + 1) 0), as.getD i 0, rfl, R3.same s5, hv5, m1, m2, sh_ok h1 ok, hab, fun g hg H6 u6 R6 => ?_, fun hg H6 s6 => ?_⟩
      · have s36 : Same H H6 := fun b o e => u6 b o (ne_of_none e nxH) (s5 _ _ (s3 b o e))
        have tr := told_right h1 ok hg fit0
        refine ⟨_, rfl, ?_⟩
        by_cases hr1 : ts.getD i 0 + g = ts.getD (i + 1) 0
        · rw [decide_eq_true hr1]
          refine iteF ⟨⟨_, _, _, rfl⟩, s36, by rw [← hr1]; exact R6, fun j hj => ?_⟩
          by_cases hji : j < i
          · exact before j hji
          · obtain rfl : j = i := by omega
            have : rightB n r ts as j = true := decide_eq_true (tr.mp (by omega))
            show (!rightB n r ts as j) = false
            rw [this]; rfl
        · rw [decide_eq_false hr1]
          refine iteT ⟨_, rfl, wrong ?_ _ s36⟩
          have : rightB n r ts as i = false := decide_eq_false fun z => hr1 (by have := tr.mpr z; omega)
          rw [this]; rfl
      · refine ⟨_, rfl, iteT ⟨_, rfl, wrong ?_ _ ((s3.trans s5).trans s6)⟩⟩
        have : rightB n r ts as i = false := decide_eq_false (told_none hg fit0)
        rw [this]; rfl
    · rintro σ H3 ⟨⟨y5, y6, y7, rfl⟩, s3, R3, before⟩
      have ef : fwP n r ts as = none := firstP_no before
      rw [ef] at qg
      exact qg H3 s3
end


end K2

namespace K2
open PySem PySem.Spec PyProof.Rows L2 LamX NdefX Lx
abbrev sRule : Stmt := topS 44
theorem scRule : FnScope ["_law_state", "_law_wheel_here", "_law_other", "_law_least", "_law_off"] ["_law_state", "_law_wheel_here"] (defScope sRule) := ⟨rfl, rfl, rfl, by decide +kernel, rfl, by decide +kernel, by decide +kernel⟩
section
variable {P : Program} {w : World} {K : PySem.W.Frag} {mg : Str → Option Value} {base : Heap}
theorem ok_rule {f : Addr} {fd : FuncData} {k j : Nat} (F : Fun K "_law_rule" "_law_rule" sRule f fd) (D : Kn P w K mg base CX0 j "_law_drawn" ["_law_state", "_law_many"] (spDrawn K)) (DW : Kn P w K mg base CX0 j "_law_wheel" ["_law_state"] (spWheel K)) (gm : mg "min" = none) (hj : j ≤ k) :
    FnOk P w K mg base CX0 (k + 1) f fd ["_law_state", "_law_wheel_here"] (spRule K) := by
  refine F.ok scRule (fun vs H Q E h => ?_) (fun cdv A outer s H vs Q E hr h => ?_)
  · obtain ⟨S, n, rfl, _⟩ := h
    rfl
  · obtain ⟨S, n, rfl, hn, st, q⟩ := h
    have nd := scRule.nd
    refine ⟨_, pss_cons (ps_set (i := 2) nd rfl (.inl rfl) (pe_ix ix_list (pe_lst (pa_cons (pe_op op_add pe_int (pe_kn D hr hj (pa_cons (pv 0) (pa_cons pe_int pa_nil)) rfl)) (pa_cons (pv 1) (pa_cons (pe_kn DW hr hj (pa_cons (pv 0) pa_nil) rfl) pa_nil)))) (pe_kn D hr hj (pa_cons (pv 0) (pa_cons pe_int pa_nil)) rfl) (fun _ _ => rfl)))
      (pss_cons (ps_set (i := 3) nd rfl (.inl rfl) (pe_ix ix_list (pe_lst (pa_cons pe_int (pa_cons (pe_kn D hr hj (pa_cons (pv 0) (pa_cons (pe_op op_mul pe_int (pv 1)) pa_nil)) rfl) (pa_cons (pe_kn D hr hj (pa_cons (pv 0) (pa_cons (pe_op op_add (pe_op op_pow pe_int pe_int) pe_int) pa_nil)) rfl) pa_nil)))) (pe_kn D hr hj (pa_cons (pv 0) (pa_cons pe_int pa_nil)) rfl) (fun _ _ => rfl)))
      (pss_cons (ps_set (i := 4) nd rfl (.inl rfl) (pe_ix ix_list (pe_lst (pa_cons pe_int (pa_cons (pe_kn D hr hj (pa_cons (pv 0) (pa_cons (pe_op op_fdiv (pe_op op_add (pv 1) pe_int) pe_int) pa_nil)) rfl) (pa_cons (pe_op op_fdiv (pe_op op_sub (pv 1) pe_int) pe_int) pa_nil)))) (pe_kn D hr hj (pa_cons (pv 0) (pa_cons pe_int pa_nil)) rfl) (fun _ _ => rfl)))
      (pss_one (ps_ret (pe_ix ix_list (pe_lst (pa_cons (pe_tup (pa_cons pe_str (pa_cons (pe_callB (call_min2 rfl) (by rfl) gm (by decide +kernel) (pa_cons (pv 3) (pa_cons (pe_op op_pow pe_int pe_int) pa_nil))) pa_nil))) (pa_cons (pe_tup (pa_cons pe_str pa_nil)) (pa_cons (pe_tup (pa_cons pe_str (pa_cons (pv 2) pa_nil))) (pa_cons (pe_tup (pa_cons pe_str (pa_cons (pv 4) pa_nil))) pa_nil)))))
        (pe_kn D hr hj (pa_cons (pv 0) (pa_cons pe_int pa_nil)) rfl) (fun _ _ => rfl)))))), ?_⟩
    obtain ⟨n1, n2⟩ := id hn
    -- other
    refine ⟨.ref S, rfl, S, 12, rfl, st, by decide, by decide, fun v1 H1 v10 v11 b1 st1 => ?_⟩
    refine ⟨_, _, rfl, rfl, .int n, rfl, .ref S, rfl, S, rfl, st1, fun o2 H2 ho2 b2 st2 => by
      refine ⟨by show 3 ≤ sizeLine; decide, fun p hp => ?_⟩
      refine ⟨.ref S, rfl, S, 3, rfl, st2.new hp, by decide, by decide, fun v2 H3 v20 v21 b3 st3 => ?_⟩
      obtain ⟨x, ex, hx⟩ := pick3 (a := V.int (2 + v1)) (b := V.int n) (c := V.int o2) v20 v21
      obtain ⟨o, rfl, ho⟩ : ∃ z : Int, x = .int z ∧ Wh z := by
        rcases hx with rfl | rfl | rfl
        · exact ⟨_, rfl, by omega, by omega⟩
        · exact ⟨_, rfl, hn⟩
        · exact ⟨_, rfl, ho2⟩
      refine ⟨p, _, v2, _, rfl, rfl, SqL.of (b3 _ _ (st2.nn hp) upd_same), ex, ?_⟩
      have b03 : But S H H3 := ((b1.trans b2).trans (But.new hp)).trans b3
      -- least
      refine ⟨.ref S, rfl, .int n, rfl, 2, n, rfl, rfl, .inl ⟨by decide, by decide⟩, S, _, rfl, st3, by omega, by omega, fun l1 H4 l10 l11 b4 st4 => ?_⟩
      refine ⟨.ref S, rfl, 10, 12, rfl, rfl, ⟨by decide, by decide, by decide⟩, _, _, rfl, rfl, S, _, rfl, st4, by decide, by decide, fun l2 H5 l20 l21 b5 st5 => ?_⟩
      refine ⟨by show 3 ≤ sizeLine; decide, fun p5 hp5 => ?_⟩
      refine ⟨.ref S, rfl, S, 3, rfl, st5.new hp5, by decide, by decide, fun v3 H6 v30 v31 b6 st6 => ?_⟩
      obtain ⟨x, ex, hx⟩ := pick3 (a := V.int 0) (b := V.int l1) (c := V.int l2) v30 v31
      obtain ⟨l, rfl, l0⟩ : ∃ z : Int, x = .int z ∧ 0 ≤ z := by
        rcases hx with rfl | rfl | rfl
        · exact ⟨_, rfl, by omega⟩
        · exact ⟨_, rfl, l10⟩
        · exact ⟨_, rfl, l20⟩
      refine ⟨p5, _, v3, _, rfl, rfl, SqL.of (b6 _ _ (st5.nn hp5) upd_same), ex, ?_⟩
      have b06 : But S H H6 := (((b03.trans b4).trans b5).trans (But.new hp5)).trans b6
      -- off
      refine ⟨.ref S, rfl, .int n, rfl, _, _, rfl, rfl, _, _, rfl, rfl, ⟨by decide, by decide⟩, S, _, rfl, st6, by omega, by omega, fun f1 H7 f10 f11 b7 st7 => ?_⟩
      refine ⟨.int n, rfl, _, _, rfl, rfl, _, _, rfl, rfl, ⟨by decide, by decide⟩, by show 3 ≤ sizeLine; decide, fun p7 hp7 => ?_⟩
      refine ⟨.ref S, rfl, S, 3, rfl, st7.new hp7, by decide, by decide, fun v4 H8 v40 v41 b8 st8 => ?_⟩
      obtain ⟨x, ex, hx⟩ := pick3 (a := V.int 0) (b := V.int f1) (c := V.int ((n - 1) / 2)) v40 v41
      obtain ⟨fo, rfl, hfo⟩ : ∃ z : Int, x = .int z ∧ (0 ≤ z ∧ 2 * z < n) := by
        rcases hx with rfl | rfl | rfl
        · exact ⟨_, rfl, by omega, by omega⟩
        · exact ⟨_, rfl, by omega, by omega⟩
        · exact ⟨_, rfl, by omega, by omega⟩
      refine ⟨p7, _, v4, _, rfl, rfl, SqL.of (b8 _ _ (st7.nn hp7) upd_same), ex, ?_⟩
      have b08 : But S H H8 := ((b06.trans b7).trans (But.new hp7)).trans b8
      -- the rule
      refine ⟨.int l, rfl, 10, 12, rfl, rfl, ⟨by decide, by decide, by decide⟩, l, _, rfl, by show 2 ≤ sizeLine; decide, fun q1 h1 => ?_⟩
      refine ⟨by show 1 ≤ sizeLine; decide, fun q2 h2 => ?_⟩
      refine ⟨.int o, rfl, by show 2 ≤ sizeLine; decide, fun q3 h3 => ?_⟩
      refine ⟨.int fo, rfl, by show 2 ≤ sizeLine; decide, fun q4 h4 => ?_⟩
      refine ⟨by show 4 ≤ sizeLine; decide, fun q5 h5 => ?_⟩
      have s2 := same_new (o := .tup [.str "near"]) h2
      have s3 := same_new (o := .tup [.str "pair", .int o]) h3
      have s4 := same_new (o := .tup [.str "about", .int fo]) h4
      have s5 := same_new (o := .lst [.ref q1, .ref q2, .ref q3, .ref q4]) h5
      have stE := ((((st8.new h1).new h2).new h3).new h4).new (o := .lst [.ref q1, .ref q2, .ref q3, .ref q4]) h5
      refine ⟨.ref S, rfl, S, 4, rfl, stE, by decide, by decide, fun v5 H9 v50 v51 b9 st9 => ?_⟩
      obtain ⟨x, ex, hx⟩ := pick4 (a := V.ref q1) (b := V.ref q2) (c := V.ref q3) (d := V.ref q4) v50 v51
      refine ⟨q5, _, v5, _, rfl, rfl, SqL.of (b9 _ _ (((((st8.new h1).new h2).new h3).new h4).nn h5) upd_same), ex, ?_⟩
      have b0E : But S H H9 := (((((b08.trans (But.new h1)).trans (But.new h2)).trans (But.new h3)).trans (But.new h4)).trans (But.new h5)).trans b9
      rcases hx with rfl | rfl | rfl | rfl
      · refine q q1 (.up (if (10 : Int) ^ (12 : Int).toNat < l then (10 : Int) ^ (12 : Int).toNat else l)) H9 ?_ b0E st9 (b9 _ _ (st8.nn h1) (s5 _ _ (s4 _ _ (s3 _ _ (s2 _ _ upd_same)))))
        show 0 ≤ _ ∧ _ ≤ _
        have e : (10 : Int) ^ (12 : Int).toNat = 1000000000000 := by decide
        rw [e]
        split <;> omega
      · exact q q2 .near H9 trivial b0E st9 (b9 _ _ ((st8.new h1).nn h2) (s5 _ _ (s4 _ _ (s3 _ _ upd_same))))
      · exact q q3 (.pair o) H9 ho b0E st9 (b9 _ _ (((st8.new h1).new h2).nn h3) (s5 _ _ (s4 _ _ upd_same)))
      · exact q q4 (.about fo) H9 hfo b0E st9 (b9 _ _ ((((st8.new h1).new h2).new h3).nn h4) (s5 _ _ upd_same))⟩
end

abbrev sLShown : Stmt := topS 46
theorem scLShown : FnScope ["_law_wheel_here", "_law_rule_here", "_law_time_here"] ["_law_wheel_here", "_law_rule_here", "_law_time_here"] (defScope sLShown) := ⟨rfl, rfl, rfl, by decide +kernel, rfl, by decide +kernel, by decide +kernel⟩
section
variable {P : Program} {w : World} {K : PySem.W.Frag} {mg : Str → Option Value} {base : Heap}
theorem ok_lshown {f : Addr} {fd : FuncData} {k : Nat} (F : Fun K "_law_shown" "_law_shown" sLShown f fd) : FnOk P w K mg base CX0 (k + 1) f fd ["_law_wheel_here", "_law_rule_here", "_law_time_here"] (spLawShown K) := by
  refine F.ok scLShown (fun vs H Q E h => ?_) (fun cdv A outer s H vs Q E hr h => ?_)
  · obtain ⟨n, a, t, r, rfl, _⟩ := h
    rfl
  · obtain ⟨n, a, t, r, rfl, hn, ok, hR, q⟩ := h
    refine ⟨_, pss_one (ps_ret (pe_ifExp (pt_cmpR op_eq (pe_ix ix_tup (pv 1) pe_int (fun _ _ => rfl)) pe_str (nomark _))
      (pe_tup (pa_cons (pe_op op_mod (pv 2) (pv 0)) (pa_cons (pe_op op_mod (pv 2) (pe_ix ix_tup (pv 1) pe_int (fun _ _ => rfl))) pa_nil))) (pe_op op_mod (pv 2) (pv 0)))), ?_⟩
    have hT : SqT K H a (rulT r) := SqT.of hR
    have np : 0 < n := by have := hn.1; omega
    cases r with
    | pair o =>
      have op : 0 < o := by have := ok.1; omega
      refine ⟨_, rfl, a, _, 0, _, rfl, rfl, hT, rfl, rfl, _, rfl, iteT ?_⟩
      refine ⟨_, rfl, _, rfl, _, _, rfl, rfl, np, _, rfl, _, rfl, a, _, 1, _, rfl, rfl, hT, rfl, _, _, rfl, rfl, op, by show 2 ≤ sizeLine; decide, fun p hp => ?_⟩
      exact q _ _ (same_new hp) ⟨p, rfl, SqT.of upd_same⟩
    | up l =>
      refine ⟨_, rfl, a, _, 0, _, rfl, rfl, hT, rfl, rfl, _, rfl, iteF ?_⟩
      exact ⟨_, rfl, _, rfl, _, _, rfl, rfl, np, q H (.int (t % n)) (.refl _) rfl⟩
    | near =>
      refine ⟨_, rfl, a, _, 0, _, rfl, rfl, hT, rfl, rfl, _, rfl, iteF ?_⟩
      exact ⟨_, rfl, _, rfl, _, _, rfl, rfl, np, q H (.int (t % n)) (.refl _) rfl⟩
    | about f =>
      refine ⟨_, rfl, a, _, 0, _, rfl, rfl, hT, rfl, rfl, _, rfl, iteF ?_⟩
      exact ⟨_, rfl, _, rfl, _, _, rfl, rfl, np, q H (.int (t % n)) (.refl _) rfl⟩
end

abbrev sOdd : Stmt := topS 47
theorem scOdd : FnScope ["_law_state", "_law_wheel_here", "_law_far_here", "_law_some"] ["_law_state", "_law_wheel_here"] (defScope sOdd) := ⟨rfl, rfl, rfl, by decide +kernel, rfl, by decide +kernel, by decide +kernel⟩
/-- a tuple that is no rule -/
def OddV (n : Int) (H : Hp) (x : V) : Prop := ∃ (a : Addr) (xs : List V), x = .ref a ∧ H a = some (.tup xs) ∧ RulF xs ∧ RulB n xs = false
theorem OddV.same {n : Int} {H H' : Hp} {x : V} (h : OddV n H x) (s : Same H H') : OddV n H' x := by
  obtain ⟨a, xs, e, h1, h2⟩ := h
  exact ⟨a, xs, e, s _ _ h1, h2⟩
theorem OddV.but {K : PySem.W.Frag} {S : Addr} {n : Int} {H H' : Hp} {x : V} (h : OddV n H x) (st : StAt K S H) (b : But S H H') : OddV n H' x := by
  obtain ⟨a, xs, e, h1, h2⟩ := h
  exact ⟨a, xs, e, rule_but st b h1, h2⟩
theorem odd_two {n : Int} {H : Hp} {p : Addr} {k : Str} {s : Int} (h : twoB n k s = false) : OddV n (upd H p (.tup [.str k, .int s])) (.ref p) := ⟨p, _, rfl, upd_same, .two k s, h⟩
theorem odd_one {n : Int} {H : Hp} {p : Addr} {k : Str} (h : PyData.strOk k = true) (h2 : ¬ k = "near") : OddV n (upd H p (.tup [.str k])) (.ref p) := ⟨p, _, rfl, upd_same, .one k h, decide_eq_false h2⟩
theorem odd_three {n : Int} {H : Hp} {p : Addr} {k : Str} {s t : Int} (h : PyData.strOk k = true) : OddV n (upd H p (.tup [.str k, .int s, .int t])) (.ref p) := ⟨p, _, rfl, upd_same, .three k s t h, rfl⟩
theorem odd_nil {n : Int} {H : Hp} {p : Addr} : OddV n (upd H p (.tup [])) (.ref p) := ⟨p, _, rfl, upd_same, .nil, rfl⟩
theorem two_up {n s : Int} (h : ¬ (0 ≤ s ∧ s ≤ 1000000000000)) : twoB n "up" s = false := by unfold twoB; rw [if_pos rfl]; exact decide_eq_false h
theorem two_pair {n s : Int} (h : ¬ Wh s) : twoB n "pair" s = false := by unfold twoB; rw [if_neg (by decide), if_pos rfl]; exact decide_eq_false h
theorem two_about {n s : Int} (h : ¬ (0 ≤ 2 * s ∧ 2 * s < n)) : twoB n "about" s = false := by unfold twoB; rw [if_neg (by decide), if_neg (by decide), if_pos rfl]; exact decide_eq_false h
theorem two_no {n s : Int} {k : Str} (h1 : ¬ k = "up") (h2 : ¬ k = "pair") (h3 : ¬ k = "about") : twoB n k s = false := by unfold twoB; rw [if_neg h1, if_neg h2, if_neg h3]
def spOdd (K : PySem.W.Frag) : Sp := fun vs H Q _ => ∃ (S : Addr) (n : Int), vs = [.ref S, .int n] ∧ Wh n ∧ StAt K S H ∧ ∀ (a : Addr) (xs : List V) (H' : Hp), RulF xs → RulB n xs = false → But S H H' → StAt K S H' → H' a = some (.tup xs) → Q (.ref a) H'
section
variable {P : Program} {w : World} {K : PySem.W.Frag} {mg : Str → Option Value} {base : Heap}
theorem ok_odd {f : Addr} {fd : FuncData} {k j i : Nat} (F : Fun K "_law_odd" "_law_odd" sOdd f fd) (D : Kn P w K mg base CX0 j "_law_drawn" ["_law_state", "_law_many"] (spDrawn K)) (DF : Kn P w K mg base CX0 i "_law_far" ["_law_state", "_law_least", "_law_most"] (spFar K)) (hj : j ≤ k) (hi : i ≤ k) (gab : mg "abs" = none) :
    FnOk P w K mg base CX0 (k + 1) f fd ["_law_state", "_law_wheel_here"] (spOdd K) := by
  refine F.ok scOdd (fun vs H Q E h => ?_) (fun cdv A outer s H vs Q E hr h => ?_)
  · obtain ⟨S, n, rfl, _⟩ := h
    rfl
  · obtain ⟨S, n, rfl, hn, st, q⟩ := h
    have nd := scOdd.nd
    refine ⟨_, pss_cons (ps_set (i := 2) nd rfl (.inl rfl) (pe_kn DF hr hi (pa_cons (pv 0) (pa_cons pe_int (pa_cons (pe_op op_pow pe_int pe_int) pa_nil))) rfl))
      (C8.pss_cut (ps_set (i := 3) nd rfl (.inl rfl) (pe_lst (pa_cons (pe_tup (pa_cons pe_str (pa_cons (pv 2) pa_nil))) (pa_cons (pe_tup (pa_cons pe_str (pa_cons (pe_kn DF hr hi (pa_cons (pv 0) (pa_cons pe_int (pa_cons (pe_op op_pow pe_int pe_int) pa_nil))) rfl) pa_nil))) (pa_cons (pe_tup (pa_cons pe_str (pa_cons (pe_op op_fdiv (pe_op op_add (pv 1) pe_int) pe_int) pa_nil))) (pa_cons (pe_tup (pa_cons pe_str (pa_cons (pe_op op_sub pe_int pe_int) pa_nil))) (pa_cons (pe_tup pa_nil) pa_nil)))))))
      (C8.pss_cut (ps_set (i := 3) nd rfl (.inl rfl) (pe_op op_cat (pv 3) (pe_lst (pa_cons (pe_tup (pa_cons pe_str pa_nil)) (pa_cons (pe_tup (pa_cons pe_str (pa_cons pe_int pa_nil))) (pa_cons (pe_tup (pa_cons pe_str (pa_cons pe_int (pa_cons pe_int pa_nil)))) (pa_cons (pe_tup (pa_cons pe_str (pa_cons pe_int (pa_cons pe_int pa_nil)))) (pa_cons (pe_tup (pa_cons pe_str pa_nil)) (pa_cons (pe_tup (pa_cons pe_str pa_nil)) (pa_cons (pe_tup (pa_cons pe_str (pa_cons pe_int pa_nil))) (pa_cons (pe_tup (pa_cons pe_str (pa_cons pe_int pa_nil))) pa_nil)))))))))))
      (pss_one (ps_ret (pe_ix ix_list (pe_op op_cat (pv 3) (pe_lst (pa_cons (pe_tup (pa_cons pe_str (pa_cons (pe_op op_add (pv 1) (pe_callB call_abs (by rfl) gab (by decide +kernel) (pa_cons (pv 2) pa_nil))) pa_nil))) pa_nil))) (pe_kn D hr hj (pa_cons (pv 0) (pa_cons pe_int pa_nil)) rfl) (fun _ _ => rfl)))))), ?_⟩
    obtain ⟨n1, n2⟩ := id hn
    have pw : (10 : Int) ^ (12 : Int).toNat = 1000000000000 := by decide
    refine ⟨.ref S, rfl, 10, 12, rfl, rfl, ⟨by decide, by decide, by decide⟩, S, 0, _, rfl, st, by decide, by decide, by decide, by decide, fun fa H1 hfa smf b1 st1 => ?_⟩
    -- the first five
    refine ⟨fun σ' H' => ∃ (p : Addr) (xs : List V), σ' = [some (.ref S), some (.int n), some (.int fa), some (.ref p)] ∧ H' p = some (.lst xs) ∧ xs.length = 5 ∧ (∀ x ∈ xs, OddV n H' x) ∧ StAt K S H' ∧ But S H H', ?_, ?_⟩
    · refine ⟨.int fa, rfl, by show 2 ≤ sizeLine; decide, fun t1 h1 => ?_⟩
      have s1 := same_new (o := .tup [.str "up", .int fa]) h1
      have o1 : OddV n _ _ := odd_two (n := n) (H := H1) (p := t1) (k := "up") (s := fa) (two_up (by rw [pw] at hfa; omega))
      refine ⟨.ref S, rfl, 10, 12, rfl, rfl, ⟨by decide, by decide, by decide⟩, S, 2, _, rfl, st1.same s1, by decide, by decide, by decide, by decide, fun fb H2 hfb smg b2 st2 => ⟨by show 2 ≤ sizeLine; decide, fun t2 h2 => ?_⟩⟩
      have s2 := same_new (o := .tup [.str "pair", .int fb]) h2
      have o1 := (o1.but (st1.same s1) b2).same s2
      have o2 : OddV n _ _ := odd_two (n := n) (H := H2) (p := t2) (k := "pair") (s := fb) (two_pair (fun z => by have z1 := z.1; have z2 := z.2; rw [pw] at hfb; omega))
      refine ⟨.int n, rfl, _, _, rfl, rfl, _, _, rfl, rfl, ⟨by decide, by decide⟩, by show 2 ≤ sizeLine; decide, fun t3 h3 => ?_⟩
      have s3 := same_new (o := .tup [.str "about", .int ((n + 1) / 2)]) h3
      have o3 : OddV n _ _ := odd_two (n := n) (H := upd H2 t2 (.tup [.str "pair", .int fb])) (p := t3) (k := "about") (s := (n + 1) / 2) (two_about (by omega))
      refine ⟨_, _, rfl, rfl, by show 2 ≤ sizeLine; decide, fun t4 h4 => ?_⟩
      have s4 := same_new (o := .tup [.str "about", .int (0 - 1)]) h4
      have o4 : OddV n _ _ := odd_two (n := n) (H := upd (upd H2 t2 (.tup [.str "pair", .int fb])) t3 (.tup [.str "about", .int ((n + 1) / 2)])) (p := t4) (k := "about") (s := 0 - 1) (two_about (by omega))
      refine ⟨Nat.zero_le _, fun t5 h5 => ?_⟩
      have s5 := same_new (o := .tup []) h5
      have o5 : OddV n _ _ := odd_nil (n := n) (H := upd (upd (upd H2 t2 (.tup [.str "pair", .int fb])) t3 (.tup [.str "about", .int ((n + 1) / 2)])) t4 (.tup [.str "about", .int (0 - 1)])) (p := t5)
      refine ⟨by show 5 ≤ sizeLine; decide, fun p hp => ?_⟩
      have s6 := same_new (o := .lst [.ref t1, .ref t2, .ref t3, .ref t4, .ref t5]) hp
      refine ⟨p, _, rfl, upd_same, rfl, fun x hx => ?_, (((((st2.same s2).same s3).same s4).same s5).same s6), (((b1.trans (But.of s1)).trans b2).trans (But.of ((((s2.trans s3).trans s4).trans s5).trans s6)))⟩
      simp only [List.mem_cons, List.not_mem_nil, or_false] at hx
      rcases hx with rfl | rfl | rfl | rfl | rfl
      · exact (((o1.same s3).same s4).same s5).same s6
      · exact (((o2.same s3).same s4).same s5).same s6
      · exact ((o3.same s4).same s5).same s6
      · exact (o4.same s5).same s6
      · exact o5.same s6
    rintro σ3 H3 ⟨p, xs, rfl, ep, lx, ox, st3, b3⟩
    -- eight more
    refine ⟨fun σ' H' => ∃ (p : Addr) (xs : List V), σ' = [some (.ref S), some (.int n), some (.int fa), some (.ref p)] ∧ H' p = some (.lst xs) ∧ xs.length = 13 ∧ (∀ x ∈ xs, OddV n H' x) ∧ StAt K S H' ∧ But S H H', ?_, ?_⟩
    · refine ⟨.ref p, rfl, ?_⟩
      refine ⟨by show 1 ≤ sizeLine; decide, fun t1 h1 => ?_⟩
      have s1 := same_new (o := .tup [.str "up"]) h1
      have o1 : OddV n _ _ := odd_one (n := n) (H := H3) (p := t1) (k := "up") (by decide +kernel) (by decide)
      refine ⟨by show 2 ≤ sizeLine; decide, fun t2 h2 => ?_⟩
      have s2 := same_new (o := .tup [.str "near", .int 1]) h2
      have o2 : OddV n _ _ := odd_two (n := n) (H := (upd H3 t1 (.tup [.str "up"]))) (p := t2) (k := "near") (s := 1) (two_no (by decide) (by decide) (by decide))
      refine ⟨by show 3 ≤ sizeLine; decide, fun t3 h3 => ?_⟩
      have s3 := same_new (o := .tup [.str "near", .int 0, .int 0]) h3
      have o3 : OddV n _ _ := odd_three (n := n) (H := (upd (upd H3 t1 (.tup [.str "up"])) t2 (.tup [.str "near", .int 1]))) (p := t3) (k := "near") (s := 0) (t := 0) (by decide +kernel)
      refine ⟨by show 3 ≤ sizeLine; decide, fun t4 h4 => ?_⟩
      have s4 := same_new (o := .tup [.str "up", .int 1, .int 1]) h4
      have o4 : OddV n _ _ := odd_three (n := n) (H := (upd (upd (upd H3 t1 (.tup [.str "up"])) t2 (.tup [.str "near", .int 1])) t3 (.tup [.str "near", .int 0, .int 0]))) (p := t4) (k := "up") (s := 1) (t := 1) (by decide +kernel)
      refine ⟨by show 1 ≤ sizeLine; decide, fun t5 h5 => ?_⟩
      have s5 := same_new (o := .tup [.str "pair"]) h5
      have o5 : OddV n _ _ := odd_one (n := n) (H := (upd (upd (upd (upd H3 t1 (.tup [.str "up"])) t2 (.tup [.str "near", .int 1])) t3 (.tup [.str "near", .int 0, .int 0])) t4 (.tup [.str "up", .int 1, .int 1]))) (p := t5) (k := "pair") (by decide +kernel) (by decide)
      refine ⟨by show 1 ≤ sizeLine; decide, fun t6 h6 => ?_⟩
      have s6 := same_new (o := .tup [.str "about"]) h6
      have o6 : OddV n _ _ := odd_one (n := n) (H := (upd (upd (upd (upd (upd H3 t1 (.tup [.str "up"])) t2 (.tup [.str "near", .int 1])) t3 (.tup [.str "near", .int 0, .int 0])) t4 (.tup [.str "up", .int 1, .int 1])) t5 (.tup [.str "pair"]))) (p := t6) (k := "about") (by decide +kernel) (by decide)
      refine ⟨by show 2 ≤ sizeLine; decide, fun t7 h7 => ?_⟩
      have s7 := same_new (o := .tup [.str "Up", .int 1]) h7
      have o7 : OddV n _ _ := odd_two (n := n) (H := (upd (upd (upd (upd (upd (upd H3 t1 (.tup [.str "up"])) t2 (.tup [.str "near", .int 1])) t3 (.tup [.str "near", .int 0, .int 0])) t4 (.tup [.str "up", .int 1, .int 1])) t5 (.tup [.str "pair"])) t6 (.tup [.str "about"]))) (p := t7) (k := "Up") (s := 1) (two_no (by decide) (by decide) (by decide))
      refine ⟨by show 2 ≤ sizeLine; decide, fun t8 h8 => ?_⟩
      have s8 := same_new (o := .tup [.str "", .int 1]) h8
      have o8 : OddV n _ _ := odd_two (n := n) (H := (upd (upd (upd (upd (upd (upd (upd H3 t1 (.tup [.str "up"])) t2 (.tup [.str "near", .int 1])) t3 (.tup [.str "near", .int 0, .int 0])) t4 (.tup [.str "up", .int 1, .int 1])) t5 (.tup [.str "pair"])) t6 (.tup [.str "about"])) t7 (.tup [.str "Up", .int 1]))) (p := t8) (k := "") (s := 1) (two_no (by decide) (by decide) (by decide))
      refine ⟨by show 8 ≤ sizeLine; decide, fun p2 hp2 => ?_⟩
      have s9 := same_new (o := .lst [.ref t1, .ref t2, .ref t3, .ref t4, .ref t5, .ref t6, .ref t7, .ref t8]) hp2
      have sA := (((((((s1.trans s2).trans s3).trans s4).trans s5).trans s6).trans s7).trans s8).trans s9
      refine ⟨p, p2, _, _, rfl, rfl, sA _ _ ep, upd_same, ?_, fun p3 hp3 => ?_⟩
      · show xs.length + 8 ≤ sizeLine
        rw [lx]; decide
      have s10 := same_new (o := .lst (xs ++ [.ref t1, .ref t2, .ref t3, .ref t4, .ref t5, .ref t6, .ref t7, .ref t8])) hp3
      refine ⟨p3, _, rfl, upd_same, by rw [List.length_append, lx]; rfl, fun x hx => ?_, (st3.same sA).same s10, b3.trans (But.of (sA.trans s10))⟩
      rcases List.mem_append.mp hx with h | h
      · exact ((ox x h).same sA).same s10
      simp only [List.mem_cons, List.not_mem_nil, or_false] at h
      rcases h with rfl | rfl | rfl | rfl | rfl | rfl | rfl | rfl
      · exact (((((((((o1).same s2).same s3).same s4).same s5).same s6).same s7).same s8).same s9).same s10
      · exact ((((((((o2).same s3).same s4).same s5).same s6).same s7).same s8).same s9).same s10
      · exact (((((((o3).same s4).same s5).same s6).same s7).same s8).same s9).same s10
      · exact ((((((o4).same s5).same s6).same s7).same s8).same s9).same s10
      · exact (((((o5).same s6).same s7).same s8).same s9).same s10
      · exact ((((o6).same s7).same s8).same s9).same s10
      · exact (((o7).same s8).same s9).same s10
      · exact ((o8).same s9).same s10
    rintro σ4 H4 ⟨p, xs, rfl, ep, lx, ox, st4, b4⟩
    refine ⟨.ref p, rfl, .int n, rfl, .int fa, rfl, _, rfl, _, _, rfl, rfl, by show 2 ≤ sizeLine; decide, fun t1 h1 => ?_⟩
    have ab : 0 ≤ (if fa < 0 then -fa else fa) := by split <;> omega
    have s1 := same_new (o := .tup [.str "about", .int (n + (if fa < 0 then -fa else fa))]) h1
    have o1 : OddV n _ _ := odd_two (n := n) (H := H4) (p := t1) (k := "about") (s := n + (if fa < 0 then -fa else fa)) (two_about (by omega))
    refine ⟨by show 1 ≤ sizeLine; decide, fun p2 hp2 => ?_⟩
    have s2 := same_new (o := .lst [.ref t1]) hp2
    refine ⟨p, p2, _, _, rfl, rfl, (s1.trans s2) _ _ ep, upd_same, ?_, fun p3 hp3 => ?_⟩
    · show xs.length + 1 ≤ sizeLine
      rw [lx]; decide
    have s3 := same_new (o := .lst (xs ++ [.ref t1])) hp3
    have sA := (s1.trans s2).trans s3
    have st5 := st4.same sA
    refine ⟨.ref S, rfl, S, 14, rfl, st5, by decide, by decide, fun v H6 v0 v1 b6 st6 => ?_⟩
    have all : ∀ x ∈ xs ++ [V.ref t1], OddV n H6 x := fun x hx => by
      rcases List.mem_append.mp hx with h | h
      · exact ((ox x h).same sA).but st5 b6
      · rw [List.mem_singleton.mp h]; exact ((o1.same s2).same s3).but st5 b6
    obtain ⟨x, ex, hx⟩ := pick (xs := xs ++ [V.ref t1]) v0 (by rw [List.length_append, lx]; exact v1)
    obtain ⟨a, ys, rfl, ea, fa', ba⟩ := all x hx
    exact ⟨p3, _, v, _, rfl, rfl, SqL.of (b6 _ _ (((st4.same s1).same s2).nn hp3) upd_same), ex, q a ys H6 fa' ba ((b4.trans (But.of sA)).trans b6) st6 ea⟩
end


end K2

namespace K2
open PySem PySem.Spec PyProof.Rows L2 LamX NdefX Lx
/-- what is shown, tracked -/
def SeenT (H : Hp) (r : Rul) (v : V) (s : Int × Int) : Prop := match r with
  | .pair _ => ∃ p, v = .ref p ∧ H p = some (.tup [.int s.1, .int s.2])
  | _ => v = .int s.1
theorem SeenT.at_ {K : PySem.W.Frag} {H : Hp} {r : Rul} {v : V} {s : Int × Int} (h : SeenT H r v s) : SeenAt K H r v s := by
  cases r with
  | pair o => obtain ⟨p, e1, e2⟩ := h; exact ⟨p, e1, SqT.of e2⟩
  | up _ => exact h
  | near => exact h
  | about _ => exact h
theorem SeenT.same {H H' : Hp} {r : Rul} {v : V} {s : Int × Int} (e : Same H H') (h : SeenT H r v s) : SeenT H' r v s := by
  cases r with
  | pair o => obtain ⟨p, e1, e2⟩ := h; exact ⟨p, e1, e _ _ e2⟩
  | up _ => exact h
  | near => exact h
  | about _ => exact h
theorem seen_same1 {H : Hp} {r : Rul} {u v : V} {s : Int × Int} (h1 : SeenT H r u s) (h2 : SeenT H r v s) :
    ((u = v ∧ flatV u = true) ∨ ∃ (b : Bool) (p' q' : Addr) (xs ys : List V), u = .ref p' ∧ v = .ref q' ∧ H p' = some (mk b xs) ∧ H q' = some (mk b ys) ∧ xs.length = ys.length ∧ ys.length ≤ 1000 ∧
      ∀ (i : Nat) (u v : V), xs[i]? = some u → ys[i]? = some v → ∀ (H' : Hp) (Q' : VK), Same H H' → (∀ H'', Same H' H'' → Q' (.bl true) H'') → spSame spNo [u, v] H' Q' L2.E0) := by
  cases r with
  | pair o =>
    obtain ⟨p, rfl, e1⟩ := h1
    obtain ⟨q, rfl, e2⟩ := h2
    exact same1_or (b := false) (xs := [.int s.1, .int s.2]) e1 e2 (by show 2 ≤ 1000; decide) rfl
  | up _ => obtain rfl : u = .int s.1 := h1; obtain rfl : v = .int s.1 := h2; exact .inl ⟨rfl, rfl⟩
  | near => obtain rfl : u = .int s.1 := h1; obtain rfl : v = .int s.1 := h2; exact .inl ⟨rfl, rfl⟩
  | about _ => obtain rfl : u = .int s.1 := h1; obtain rfl : v = .int s.1 := h2; exact .inl ⟨rfl, rfl⟩
def spShownT (CW CR : Addr) : Sp := fun vs H Q E => ∃ (n : Int) (a : Addr) (t : Int), vs = [.int n, .ref a, .int t] ∧ RulIn [] CW CR n a H E fun r =>
  ∀ H' v, Same H H' → SeenT H' r v (shS n r t) → Q v H'
def spLawShownT : Sp := fun vs H Q _ => ∃ (n : Int) (a : Addr) (t : Int) (r : Rul), vs = [.int n, .ref a, .int t] ∧ Wh n ∧ RulOk n r ∧ H a = some (.tup (rulT r)) ∧
  ∀ H' v, Same H H' → SeenT H' r v (shS n r t) → Q v H' 
section
variable {P : Program} {w : World} {K : PySem.W.Frag} {mg : Str → Option Value} {base : Heap}
theorem ok_kindC {g CE : Addr} {Cs : _root_.Fin 8 → Addr} {fd : FuncData} {k j : Nat} (F : Fun K "_law_kind" "_law_kind" sKind g fd) (b : Binds K fd ["_law_work"] []) (N : Nine mg CE Cs) (hj : j ≤ k) :
    TakesCal P w K mg base (k + 1) j g (TTK K CE Cs) := by
  refine takesCal_of F b scKind ?_
  intro cdv A outer s H f spc Q hr L q
  refine ⟨_, pss_one (ps_try_as (X := (cxOf CX0 P w K mg base ["_law_work", "e", "_law_kinds", "_law_words"] "_law_kind" (defScope sKind) g cdv A outer s H L2.E0).nox) (i := 1) (c := .ref CE)
      (tb := fun W => tRet (tCal 0 f spc W))
      (Wout := fun _ _ _ _ => False)
      (ts := fun a cls d D σ H' => ∃ (D' : Addr) (j : _root_.Fin 8), cls = .ref D' ∧ d = none ∧ Kd K CE Cs D' j ∧ (∃ y0 y2 y3, σ = [y0, some (.ref a), y2, y3]) ∧ ∀ H'', Same H' H'' → D.rt (.str (wds.getD j.val "")) H'')
      rfl rfl scKind.nd rfl rfl ⟨rfl, by decide, .inl N.g⟩ L2.takes0 (fun W pn xe tk _ => ?_) (fun a oe cls d pn hz hf => ?_)), ?_⟩
  · exact pss_one (ps_ret (pe_calcall (Z := (cxOf CX0 P w K mg base ["_law_work", "e", "_law_kinds", "_law_words"] "_law_kind" (defScope sKind) g cdv A outer s H L2.E0).nox.tr pn xe) (i := 0) (a := "_law_work")
      L (hr.mono hj) tk rfl (.inl rfl)))
  · refine pss_sem fun D σ H' h' => ?_
    obtain ⟨D', j, rfl, rfl, kd, ⟨y0, y2, y3, rfl⟩, q⟩ := h'
    refine ⟨_, pss_cons (ps_set (i := 2) scKind.nd rfl (.inl rfl) (pe_lst (pa_cons (pe_callB (call_isK hz hf) (by rfl) N.isi (by decide +kernel) (pa_cons (pv 1) (pa_cons (pe_glob (v := .ref (Cs 0)) rfl N.g0 rfl) pa_nil)))
        (pa_cons (pe_callB (call_isK hz hf) (by rfl) N.isi (by decide +kernel) (pa_cons (pv 1) (pa_cons (pe_glob (v := .ref (Cs 1)) rfl N.g1 rfl) pa_nil)))
        (pa_cons (pe_callB (call_isK hz hf) (by rfl) N.isi (by decide +kernel) (pa_cons (pv 1) (pa_cons (pe_glob (v := .ref (Cs 2)) rfl N.g2 rfl) pa_nil)))
        (pa_cons (pe_callB (call_isK hz hf) (by rfl) N.isi (by decide +kernel) (pa_cons (pv 1) (pa_cons (pe_glob (v := .ref (Cs 3)) rfl N.g3 rfl) pa_nil))) pa_nil))))))
      (pss_cons (ps_set (i := 2) scKind.nd rfl (.inl rfl) (pe_op op_cat (pv 2) (pe_lst (pa_cons (pe_callB (call_isK hz hf) (by rfl) N.isi (by decide +kernel) (pa_cons (pv 1) (pa_cons (pe_glob (v := .ref (Cs 4)) rfl N.g4 rfl) pa_nil)))
        (pa_cons (pe_callB (call_isK hz hf) (by rfl) N.isi (by decide +kernel) (pa_cons (pv 1) (pa_cons (pe_glob (v := .ref (Cs 5)) rfl N.g5 rfl) pa_nil)))
        (pa_cons (pe_callB (call_isK hz hf) (by rfl) N.isi (by decide +kernel) (pa_cons (pv 1) (pa_cons (pe_glob (v := .ref (Cs 6)) rfl N.g6 rfl) pa_nil)))
        (pa_cons (pe_callB (call_isK hz hf) (by rfl) N.isi (by decide +kernel) (pa_cons (pv 1) (pa_cons (pe_glob (v := .ref (Cs 7)) rfl N.g7 rfl) pa_nil))) pa_nil)))))))
      (pss_cons (ps_set (i := 3) scKind.nd rfl (.inl rfl) (pe_lst (pa_cons pe_str (pa_cons pe_str (pa_cons pe_str (pa_cons pe_str (pa_cons pe_str (pa_cons pe_str (pa_cons pe_str (pa_cons pe_str pa_nil))))))))))
      (pss_cons (ps_if (PW.pt (pw_or (pt_cmpR op_ne (pe_bm PySem.F.plainAttrs_list PySem.F.slot_list_count PySem.F.type_list_count mt_fcount (pv 2) (pa_cons pe_bl pa_nil)) pe_int (nomark _))
          (pw_or1 (pt_not (pt_val (pe_callB (call_isK hz hf) (by rfl) N.isi (by decide +kernel) (pa_cons (pv 1) (pa_cons (pe_bltn (v := .ty "ValueError") (by rfl) N.ve (by decide +kernel) rfl) pa_nil))))))))
        (pss_one (ps_ret pe_str)) pss_nil)
      (pss_one (ps_ret (pe_ix ix_list (pv 3) (pe_bm PySem.F.plainAttrs_list PySem.F.slot_list_index PySem.F.type_list_index mt_index (pv 2) (pa_cons pe_bl pa_nil)) (fun _ _ => rfl))))))), ?_⟩
    -- kinds
    refine ⟨_, rfl, D', rfl, rfl, kd.c, .ref (Cs 0), .ref (Cs 0), _, rfl, fun _ e => e, kd.i 0, ?_⟩
    refine ⟨_, rfl, D', rfl, rfl, kd.c, .ref (Cs 1), .ref (Cs 1), _, rfl, fun _ e => e, kd.i 1, ?_⟩
    refine ⟨_, rfl, D', rfl, rfl, kd.c, .ref (Cs 2), .ref (Cs 2), _, rfl, fun _ e => e, kd.i 2, ?_⟩
    refine ⟨_, rfl, D', rfl, rfl, kd.c, .ref (Cs 3), .ref (Cs 3), _, rfl, fun _ e => e, kd.i 3, ?_⟩
    refine ⟨by show 4 ≤ sizeLine; decide, fun p1 h1 => ?_⟩
    have s1 := same_new (o := .lst [.bl (decide (j = 0)), .bl (decide (j = 1)), .bl (decide (j = 2)), .bl (decide (j = 3))]) h1
    refine ⟨.ref p1, rfl, ?_⟩
    refine ⟨_, rfl, D', rfl, rfl, kd.c, .ref (Cs 4), .ref (Cs 4), _, rfl, fun _ e => e, kd.i 4, ?_⟩
    refine ⟨_, rfl, D', rfl, rfl, kd.c, .ref (Cs 5), .ref (Cs 5), _, rfl, fun _ e => e, kd.i 5, ?_⟩
    refine ⟨_, rfl, D', rfl, rfl, kd.c, .ref (Cs 6), .ref (Cs 6), _, rfl, fun _ e => e, kd.i 6, ?_⟩
    refine ⟨_, rfl, D', rfl, rfl, kd.c, .ref (Cs 7), .ref (Cs 7), _, rfl, fun _ e => e, kd.i 7, ?_⟩
    refine ⟨by show 4 ≤ sizeLine; decide, fun p2 h2 => ?_⟩
    have s2 := same_new (o := .lst [.bl (decide (j = 4)), .bl (decide (j = 5)), .bl (decide (j = 6)), .bl (decide (j = 7))]) h2
    refine ⟨p1, p2, _, _, rfl, rfl, s2 _ _ upd_same, upd_same, by show 4 + 4 ≤ sizeLine; decide, fun p3 h3 => ?_⟩
    have s3 := same_new (o := .lst (bits j)) h3
    refine ⟨by show 8 ≤ sizeLine; decide, fun p4 h4 => ?_⟩
    have s4 := same_new (o := .lst (wds.map V.str)) h4
    have e3 := s4 _ _ (upd_same (H := _) (a := p3) (o := .lst (bits j)))
    have L3 := SqL.of (K := K) e3
    refine ⟨.ref p3, rfl, .inl ⟨rfl, _, L3⟩, p3, _, .bl true, rfl, rfl, L3, rfl, bits_flat j, ?_⟩
    refine ⟨rfl, _, rfl, ?_⟩
    rw [bits_count j]
    refine iteNS rfl ?_
    refine ⟨_, rfl, D', rfl, rfl, kd.c, .ty "ValueError", .type "ValueError", _, rfl, fun _ e => e, kd.v, _, rfl, iteF ?_⟩
    refine ⟨.ref p4, rfl, .ref p3, rfl, .inl ⟨rfl, _, L3⟩, p3, _, .bl true, j.val, .bl true, rfl, rfl, L3, rfl, bits_flat j, bits_at j, rfl, fun m z hm ez => ?_, ?_⟩
    · have e := bits_no j ⟨m, by omega⟩ hm
      rw [ez] at e
      cases e
      rfl
    · exact ⟨p4, _, _, _, rfl, rfl, SqL.of upd_same, wds_at j, q _ (((s1.trans s2).trans s3).trans s4)⟩
  · have z := q (WE (wAs K (.ref CE) 1 (fun a cls d D σ H' => ∃ (D' : Addr) (j : _root_.Fin 8), cls = .ref D' ∧ d = none ∧ Kd K CE Cs D' j ∧ (∃ y0 y2 y3, σ = [y0, some (.ref a), y2, y3]) ∧ ∀ H'', Same H' H'' → D.rt (.str (wds.getD j.val "")) H'') (fun _ _ _ _ => False)
        { nx := fun _ H' => Q .non H', rt := Q }) [some (.ref f), none, none, none]) (fun D j H' kd h => ?_)
    · exact ⟨rfl, z⟩
    · exact ⟨true, kd.x, fun _ a _ => ⟨D, j, rfl, rfl, kd, ⟨_, _, _, rfl⟩, h⟩, fun z => nomatch z⟩
end

section
variable {P : Program} {w : World} {K : PySem.W.Frag} {mg : Str → Option Value} {base : Heap}
theorem ok_shownT {f CW CR : Addr} {fd : FuncData} {k i : Nat} (F : Fun K "shown" "shown" sShown f fd) (D : Kn P w K mg base (L2.CX P w) i "check_rule" ["wheel", "rule"] (spCheckRule K CW CR)) (hi : i ≤ k) :
    FnOk P w K mg base (L2.CX P w) (k + 1) f fd ["wheel", "rule", "time"] (spShownT CW CR) := by
  refine F.okX scShown (fun vs H Q E h => ?_) (fun cdv A outer s H vs Q E hr h => ?_)
  · obtain ⟨n, a, t, rfl, _⟩ := h
    rfl
  · obtain ⟨n, a, t, rfl, xs, sm, hS, hF, e1, e2, q⟩ := h
    have hx := passes_call (X := cxOf (L2.CX P w) P w K mg base ["wheel", "rule", "time"] "shown" (defScope sShown) f cdv A outer s H E) (E := E) (takes_of (E := E) rfl rfl rfl rfl) (fun _ _ _ _ h => h)
    refine ⟨_, pss_cons (ps_expr (pe_knX D hr hi hx (pa_cons (pv 0) (pa_cons (pv 1) pa_nil)) rfl))
      (pss_cons (ps_if (pt_cmpR op_eq (pe_ix ix_tup (pv 1) pe_int (fun _ _ => rfl)) pe_str (nomark _)) (pss_one (ps_ret (pe_tup (pa_cons (pe_op op_mod (pv 2) (pv 0)) (pa_cons (pe_op op_mod (pv 2) (pe_ix ix_tup (pv 1) pe_int (fun _ _ => rfl))) pa_nil))))) pss_nil)
      (pss_one (ps_ret (pe_op op_mod (pv 2) (pv 0))))), ?_⟩
    refine ⟨_, rfl, _, rfl, n, a, xs, rfl, sm, hS, hF, e1, e2, fun h1 h2 H' s1 => ?_⟩
    obtain ⟨r, rfl, ok⟩ := rul_of hF h2
    have q := q r h1 ok rfl
    have hT : SqT K H' a (rulT r) := SqT.of (s1 _ _ hS)
    have np : 0 < n := by have := h1.1; omega
    cases r with
    | pair o =>
      have op : 0 < o := by have := ok.1; omega
      refine ⟨_, rfl, a, _, 0, _, rfl, rfl, hT, rfl, rfl, _, rfl, iteT ?_⟩
      refine ⟨_, rfl, _, rfl, _, _, rfl, rfl, np, _, rfl, _, rfl, a, _, 1, _, rfl, rfl, hT, rfl, _, _, rfl, rfl, op, by show 2 ≤ sizeLine; decide, fun p hp => ?_⟩
      exact q _ _ (s1.trans (same_new hp)) ⟨p, rfl, upd_same⟩
    | up l =>
      refine ⟨_, rfl, a, _, 0, _, rfl, rfl, hT, rfl, rfl, _, rfl, iteF ?_⟩
      exact ⟨_, rfl, _, rfl, _, _, rfl, rfl, np, q _ (.int (t % n)) s1 rfl⟩
    | near =>
      refine ⟨_, rfl, a, _, 0, _, rfl, rfl, hT, rfl, rfl, _, rfl, iteF ?_⟩
      exact ⟨_, rfl, _, rfl, _, _, rfl, rfl, np, q _ (.int (t % n)) s1 rfl⟩
    | about f =>
      refine ⟨_, rfl, a, _, 0, _, rfl, rfl, hT, rfl, rfl, _, rfl, iteF ?_⟩
      exact ⟨_, rfl, _, rfl, _, _, rfl, rfl, np, q _ (.int (t % n)) s1 rfl⟩
end

section
variable {P : Program} {w : World} {K : PySem.W.Frag} {mg : Str → Option Value} {base : Heap}
theorem ok_lshownT {f : Addr} {fd : FuncData} {k : Nat} (F : Fun K "_law_shown" "_law_shown" sLShown f fd) : FnOk P w K mg base CX0 (k + 1) f fd ["_law_wheel_here", "_law_rule_here", "_law_time_here"] spLawShownT := by
  refine F.ok scLShown (fun vs H Q E h => ?_) (fun cdv A outer s H vs Q E hr h => ?_)
  · obtain ⟨n, a, t, r, rfl, _⟩ := h
    rfl
  · obtain ⟨n, a, t, r, rfl, hn, ok, hR, q⟩ := h
    refine ⟨_, pss_one (ps_ret (pe_ifExp (pt_cmpR op_eq (pe_ix ix_tup (pv 1) pe_int (fun _ _ => rfl)) pe_str (nomark _))
      (pe_tup (pa_cons (pe_op op_mod (pv 2) (pv 0)) (pa_cons (pe_op op_mod (pv 2) (pe_ix ix_tup (pv 1) pe_int (fun _ _ => rfl))) pa_nil))) (pe_op op_mod (pv 2) (pv 0)))), ?_⟩
    have hT : SqT K H a (rulT r) := SqT.of hR
    have np : 0 < n := by have := hn.1; omega
    cases r with
    | pair o =>
      have op : 0 < o := by have := ok.1; omega
      refine ⟨_, rfl, a, _, 0, _, rfl, rfl, hT, rfl, rfl, _, rfl, iteT ?_⟩
      refine ⟨_, rfl, _, rfl, _, _, rfl, rfl, np, _, rfl, _, rfl, a, _, 1, _, rfl, rfl, hT, rfl, _, _, rfl, rfl, op, by show 2 ≤ sizeLine; decide, fun p hp => ?_⟩
      exact q _ _ (same_new hp) ⟨p, rfl, upd_same⟩
    | up l =>
      refine ⟨_, rfl, a, _, 0, _, rfl, rfl, hT, rfl, rfl, _, rfl, iteF ?_⟩
      exact ⟨_, rfl, _, rfl, _, _, rfl, rfl, np, q H (.int (t % n)) (.refl _) rfl⟩
    | near =>
      refine ⟨_, rfl, a, _, 0, _, rfl, rfl, hT, rfl, rfl, _, rfl, iteF ?_⟩
      exact ⟨_, rfl, _, rfl, _, _, rfl, rfl, np, q H (.int (t % n)) (.refl _) rfl⟩
    | about f =>
      refine ⟨_, rfl, a, _, 0, _, rfl, rfl, hT, rfl, rfl, _, rfl, iteF ?_⟩
      exact ⟨_, rfl, _, rfl, _, _, rfl, rfl, np, q H (.int (t % n)) (.refl _) rfl⟩
end

abbrev sWorks : Stmt := topS 48
abbrev NW : List Str := ["_law_wheel_here", "_law_rule_here", "_law_one", "_law_works_here"]
theorem scWorks : FnScope NW ["_law_wheel_here", "_law_rule_here", "_law_one"] (defScope sWorks) := ⟨rfl, rfl, rfl, by decide +kernel, rfl, by decide +kernel, by decide +kernel⟩
abbrev wSt (i : Nat) : Stmt := (defBody sWorks).getD i (.Pass ⟨0, 0, 0, 0⟩)
abbrev lamW1 : Expr := lstAt 0 (asgV (wSt 0))
abbrev frW1 : List Str := ["_law_rule_here", "_law_wheel_here"]
theorem nsW1 : nscB frW1 [] frW1 (lamS lamW1) = true := by decide +kernel
theorem ndW1 : ndefB (defScope sWorks) (lamS lamW1) frW1 = true := by decide +kernel
theorem lsW1 : lamSB (defScope sWorks) (lamS lamW1) = true := by decide +kernel
abbrev lamW2 : Expr := callArg 0 (exprV (wSt 1))
abbrev frW2 : List Str := ["_law_one", "_law_rule_here", "_law_wheel_here"]
theorem nsW2 : nscB frW2 [] frW2 (lamS lamW2) = true := by decide +kernel
theorem ndW2 : ndefB (defScope sWorks) (lamS lamW2) frW2 = true := by decide +kernel
theorem lsW2 : lamSB (defScope sWorks) (lamS lamW2) = true := by decide +kernel
abbrev lamW3 : Expr := callArg 0 (exprV (wSt 2))
abbrev frW3 : List Str := ["_law_rule_here", "_law_wheel_here"]
theorem nsW3 : nscB frW3 [] frW3 (lamS lamW3) = true := by decide +kernel
theorem ndW3 : ndefB (defScope sWorks) (lamS lamW3) frW3 = true := by decide +kernel
theorem lsW3 : lamSB (defScope sWorks) (lamS lamW3) = true := by decide +kernel
abbrev lamW4 : Expr := callArg 0 (exprV (wSt 3))
abbrev frW4 : List Str := ["_law_rule_here", "_law_wheel_here"]
theorem nsW4 : nscB frW4 [] frW4 (lamS lamW4) = true := by decide +kernel
theorem ndW4 : ndefB (defScope sWorks) (lamS lamW4) frW4 = true := by decide +kernel
theorem lsW4 : lamSB (defScope sWorks) (lamS lamW4) = true := by decide +kernel
abbrev lamW5 : Expr := callArg 0 (exprV (wSt 4))
abbrev frW5 : List Str := ["_law_rule_here", "_law_wheel_here"]
theorem nsW5 : nscB frW5 [] frW5 (lamS lamW5) = true := by decide +kernel
theorem ndW5 : ndefB (defScope sWorks) (lamS lamW5) frW5 = true := by decide +kernel
theorem lsW5 : lamSB (defScope sWorks) (lamS lamW5) = true := by decide +kernel
abbrev lamW6 : Expr := callArg 0 (exprV (wSt 5))
abbrev frW6 : List Str := ["_law_rule_here", "_law_wheel_here"]
theorem nsW6 : nscB frW6 [] frW6 (lamS lamW6) = true := by decide +kernel
theorem ndW6 : ndefB (defScope sWorks) (lamS lamW6) frW6 = true := by decide +kernel
theorem lsW6 : lamSB (defScope sWorks) (lamS lamW6) = true := by decide +kernel
abbrev lqW : Str := ("_law_works" : Str) ++ ".<locals>." ++ "<lambda>"
abbrev lq : Str := ("law" : Str) ++ ".<locals>." ++ "<lambda>"
abbrev TT2 (P0 P1 : Addr) : List (Addr × Str) := [(P0, lq), (P1, lqW)]
/-- a wheel that is none, or a rule that is none -/
def BadIn (CW CR : Addr) (n : Int) (a : Addr) (H : Hp) (E : XK) : Prop := ∃ xs : List V, Sm n ∧ H a = some (.tup xs) ∧ RulF xs ∧ (¬ Wh n → ∀ H', Same H H' → E (.ref CW) none H') ∧ (Wh n → RulB n xs = false → ∀ H', Same H H' → E (.ref CR) none H') ∧ (Wh n → RulB n xs = false)
theorem BadIn.rul {K : PySem.W.Frag} {CW CR : Addr} {n : Int} {a : Addr} {H : Hp} {E : XK} {k : Rul → Prop} (h : BadIn CW CR n a H E) : RulIn K CW CR n a H E k := by
  obtain ⟨xs, h1, h2, h3, h4, h5, h6⟩ := h
  refine ⟨xs, h1, h2, h3, h4, h5, fun r hn ok e => ?_⟩
  have := h6 hn
  rw [e, rul_B ok] at this
  cases this
theorem BadIn.same {CW CR : Addr} {n : Int} {a : Addr} {H H1 : Hp} {E : XK} (h : BadIn CW CR n a H E) (s : Same H H1) : BadIn CW CR n a H1 E := by
  obtain ⟨xs, h1, h2, h3, h4, h5, h6⟩ := h
  exact ⟨xs, h1, s _ _ h2, h3, fun z H' s' => h4 z H' (s.trans s'), fun z1 z2 H' s' => h5 z1 z2 H' (s.trans s'), h6⟩
def spB2 (CW CR : Addr) : List (Option V) → Hp → VK → XK → Prop := fun ws H _ E => ∃ (n : Int) (a : Addr), ws = [some (.ref a), some (.int n)] ∧ BadIn CW CR n a H E
def spB3 (CW CR : Addr) : List (Option V) → Hp → VK → XK → Prop := fun ws H _ E => ∃ (n : Int) (a : Addr) (one : V), ws = [some one, some (.ref a), some (.int n)] ∧ BadIn CW CR n a H E
section
variable {P : Program} {w : World} {K : PySem.W.Frag} {mg : Str → Option Value} {base : Heap}
theorem ok_lamW1 {C CW CR CS CN CG : Addr} {k j : Nat} {f : Addr} {F : NF} (D : Kn P w K mg base (L2.CX P w) j "shown" ["wheel", "rule", "time"] (spShownT CW CR)) (hj : j ≤ k) (hs : F.scope = lamS lamW1) (hp : F.params = lamP lamW1) :
    LOk P w K mg base (L2.CX P w) (k + 1) f F (lamB lamW1) frW1 (spB2 CW CR) := by
  obtain ⟨name, q, params, bd, scope, cl, c⟩ := F
  obtain rfl : scope = lamS lamW1 := hs
  obtain rfl : params = lamP lamW1 := hp
  refine lok_of (N := frW1) (nscope_by nsW1) (fun _ _ => rfl) (fun A outer s H ws Q E hr hf hc hl h => ?_)
  obtain ⟨n, a, rfl, h⟩ := h
  have hx := passes_call (X := ncx (L2.CX P w) P w K mg base frW1 ⟨name, q, lamP lamW1, bd, lamS lamW1, cl, c⟩ f A outer s H E) (E := E) (takes_of (E := E) rfl rfl rfl rfl) (fun _ _ _ _ h => h)
  exact ⟨_, pe_knX D hr hj hx (pa_cons (pv 1) (pa_cons (pv 0) (pa_cons pe_int pa_nil))) rfl, _, rfl, _, rfl, n, a, 5, rfl, h.rul⟩
theorem ok_lamW2 {C CW CR CS CN CG : Addr} {k j : Nat} {f : Addr} {F : NF} (D : Kn P w K mg base (L2.CX P w) j "gap" ["wheel", "rule", "one", "other", "about"] (spGap K CW CR CS CN)) (hj : j ≤ k) (hs : F.scope = lamS lamW2) (hp : F.params = lamP lamW2) :
    LOk P w K mg base (L2.CX P w) (k + 1) f F (lamB lamW2) frW2 (spB3 CW CR) := by
  obtain ⟨name, q, params, bd, scope, cl, c⟩ := F
  obtain rfl : scope = lamS lamW2 := hs
  obtain rfl : params = lamP lamW2 := hp
  refine lok_of (N := frW2) (nscope_by nsW2) (fun _ _ => rfl) (fun A outer s H ws Q E hr hf hc hl h => ?_)
  obtain ⟨n, a, one, rfl, h⟩ := h
  have hx := passes_call (X := ncx (L2.CX P w) P w K mg base frW2 ⟨name, q, lamP lamW2, bd, lamS lamW2, cl, c⟩ f A outer s H E) (E := E) (takes_of (E := E) rfl rfl rfl rfl) (fun _ _ _ _ h => h)
  exact ⟨_, pe_knX D hr hj hx (pa_cons (pv 2) (pa_cons (pv 1) (pa_cons (pv 0) (pa_cons (pv 0) (pa_cons pe_int pa_nil))))) rfl, _, rfl, _, rfl, _, rfl, _, rfl, n, a, one, one, .int 0, rfl, h.rul⟩
theorem ok_lamW3 {C CW CR CS CN CG : Addr} {k j : Nat} {f : Addr} {F : NF} (D : Kn P w K mg base (L2.CX P w) j "bound" ["wheel", "rule"] (spBound K CW CR)) (hj : j ≤ k) (hs : F.scope = lamS lamW3) (hp : F.params = lamP lamW3) :
    LOk P w K mg base (L2.CX P w) (k + 1) f F (lamB lamW3) frW3 (spB2 CW CR) := by
  obtain ⟨name, q, params, bd, scope, cl, c⟩ := F
  obtain rfl : scope = lamS lamW3 := hs
  obtain rfl : params = lamP lamW3 := hp
  refine lok_of (N := frW3) (nscope_by nsW3) (fun _ _ => rfl) (fun A outer s H ws Q E hr hf hc hl h => ?_)
  obtain ⟨n, a, rfl, h⟩ := h
  have hx := passes_call (X := ncx (L2.CX P w) P w K mg base frW3 ⟨name, q, lamP lamW3, bd, lamS lamW3, cl, c⟩ f A outer s H E) (E := E) (takes_of (E := E) rfl rfl rfl rfl) (fun _ _ _ _ h => h)
  exact ⟨_, pe_knX D hr hj hx (pa_cons (pv 1) (pa_cons (pv 0) pa_nil)) rfl, _, rfl, _, rfl, n, a, rfl, h.rul⟩
theorem ok_lamW4 {C CW CR CS CN CG : Addr} {k j : Nat} {f : Addr} {F : NF} (D : Kn P w K mg base (L2.CX P w) j "judged" ["wheel", "rule", "least", "most"] (spJudged K CW CR CG)) (hj : j ≤ k) (hs : F.scope = lamS lamW4) (hp : F.params = lamP lamW4) :
    LOk P w K mg base (L2.CX P w) (k + 1) f F (lamB lamW4) frW4 (spB2 CW CR) := by
  obtain ⟨name, q, params, bd, scope, cl, c⟩ := F
  obtain rfl : scope = lamS lamW4 := hs
  obtain rfl : params = lamP lamW4 := hp
  refine lok_of (N := frW4) (nscope_by nsW4) (fun _ _ => rfl) (fun A outer s H ws Q E hr hf hc hl h => ?_)
  obtain ⟨n, a, rfl, h⟩ := h
  have hx := passes_call (X := ncx (L2.CX P w) P w K mg base frW4 ⟨name, q, lamP lamW4, bd, lamS lamW4, cl, c⟩ f A outer s H E) (E := E) (takes_of (E := E) rfl rfl rfl rfl) (fun _ _ _ _ h => h)
  exact ⟨_, pe_knX D hr hj hx (pa_cons (pv 1) (pa_cons (pv 0) (pa_cons pe_int (pa_cons pe_int pa_nil)))) rfl, _, rfl, _, rfl, n, a, 2, 1, rfl, ⟨by decide, by decide⟩, ⟨by decide, by decide⟩, h.rul⟩
theorem ok_lamW5 {C CW CR CS CN CG : Addr} {k j : Nat} {f : Addr} {F : NF} (D : KnI P w K mg base (L2.CX P w) j C "Reader" ["self", "wheel", "rule", "begun"] (spRdInit C CW CR K)) (hj : j + 1 ≤ k) (hs : F.scope = lamS lamW5) (hp : F.params = lamP lamW5) :
    LOk P w K mg base (L2.CX P w) (k + 1) f F (lamB lamW5) frW5 (spB2 CW CR) := by
  obtain ⟨name, q, params, bd, scope, cl, c⟩ := F
  obtain rfl : scope = lamS lamW5 := hs
  obtain rfl : params = lamP lamW5 := hp
  refine lok_of (N := frW5) (nscope_by nsW5) (fun _ _ => rfl) (fun A outer s H ws Q E hr hf hc hl h => ?_)
  obtain ⟨n, a, rfl, h⟩ := h
  have hx := passes_call (X := ncx (L2.CX P w) P w K mg base frW5 ⟨name, q, lamP lamW5, bd, lamS lamW5, cl, c⟩ f A outer s H E) (E := E) (takes_of (E := E) rfl rfl rfl rfl) (fun _ _ _ _ h => h)
  exact ⟨_, pe_new D hr hj hx (pa_cons (pv 1) (pa_cons (pv 0) (pa_cons pe_int pa_nil))) rfl, _, rfl, _, rfl, fun x dx nx ndx nex => ⟨x, dx, n, a, 0, rfl, upd_same, (h.same (fun b o e => by rw [upd_ne (ne_of_none e nx), upd_ne (ne_of_none e ndx)]; exact e)).rul⟩⟩
theorem ok_lamW6 {C CW CR CS CN CG : Addr} {k j : Nat} {f : Addr} {F : NF} (D : Kn P w K mg base (L2.CX P w) j "first_wrong" ["wheel", "rule", "times", "abouts"] (spFirstWrong K CW CR CG)) (hj : j ≤ k) (hs : F.scope = lamS lamW6) (hp : F.params = lamP lamW6) :
    LOk P w K mg base (L2.CX P w) (k + 1) f F (lamB lamW6) frW6 (spB2 CW CR) := by
  obtain ⟨name, q, params, bd, scope, cl, c⟩ := F
  obtain rfl : scope = lamS lamW6 := hs
  obtain rfl : params = lamP lamW6 := hp
  refine lok_of (N := frW6) (nscope_by nsW6) (fun _ _ => rfl) (fun A outer s H ws Q E hr hf hc hl h => ?_)
  obtain ⟨n, a, rfl, h⟩ := h
  have hx := passes_call (X := ncx (L2.CX P w) P w K mg base frW6 ⟨name, q, lamP lamW6, bd, lamS lamW6, cl, c⟩ f A outer s H E) (E := E) (takes_of (E := E) rfl rfl rfl rfl) (fun _ _ _ _ h => h)
  exact ⟨_, pe_knX D hr hj hx (pa_cons (pv 1) (pa_cons (pv 0) (pa_cons (pe_lst pa_nil) (pa_cons (pe_lst (pa_cons pe_int pa_nil)) pa_nil)))) rfl, _, rfl, _, rfl, Nat.zero_le _, fun p1 h1 => ⟨by show 1 ≤ sizeLine; decide, fun p2 h2 => ⟨n, a, p1, p2, [], [7], rfl, SqL.of (same_new h2 _ _ upd_same), SqL.of upd_same, by decide, by decide, fun x hx => (by rw [List.mem_singleton.mp hx]; exact ⟨by decide, by decide⟩), (h.same ((same_new h1).trans (same_new h2))).rul⟩⟩⟩
/-- a lambda that stands at f, its cells tracked -/
def WkAt (lam : Expr) (fr : List Str) (ws : List (Option V)) (f : Addr) (H : Hp) : Prop := ∃ F : NF, F.scope = lamS lam ∧ F.params = lamP lam ∧ H f = some (LmO f F (lamB lam)) ∧ H F.c = some (CodeO F.c F.qual) ∧ CellsT F.cl fr ws H
theorem WkAt.same {lam : Expr} {fr : List Str} {ws : List (Option V)} {f : Addr} {H H' : Hp} (h : WkAt lam fr ws f H) (s : Same H H') : WkAt lam fr ws f H' := by
  obtain ⟨F, h1, h2, h3, h4, h5⟩ := h
  exact ⟨F, h1, h2, s _ _ h3, s _ _ h4, h5.keep fun b v e => s _ _ e⟩
theorem pl_same {cl : List (Str × Addr)} {H H' : Hp} (s : Same (mn cl H) H') : Same H (pl cl H H') := fun b o e => by
  by_cases h : inC cl b = true
  · rw [pl_in h]; exact e
  · rw [pl_out h]; exact s b o (by rw [mn_out h]; exact e)
theorem BadIn.mn {CW CR : Addr} {n : Int} {a : Addr} {H : Hp} {E : XK} {cl : List (Str × Addr)} {fr : List Str} {ws : List (Option V)} (C : CellsT cl fr ws H) (h : BadIn CW CR n a H E) : BadIn CW CR n a (Lx.mn cl H) (fun cls d H' => E cls d (pl cl H H')) := by
  obtain ⟨xs, h1, h2, h3, h4, h5, h6⟩ := h
  exact ⟨xs, h1, by rw [mn_out (C.out h2 fun _ z => (nomatch z))]; exact h2, h3, fun z H' s' => h4 z _ (pl_same s'), fun z1 z2 H' s' => h5 z1 z2 _ (pl_same s'), h6⟩
def spWorks (P0 P1 : Addr) : Sp := fun vs H Q _ => ∃ (n : Int) (a : Addr) (one : V), vs = [.int n, .ref a, one] ∧ Tabs (TT2 P0 P1) H ∧
  ∀ (p f1 f2 f3 f4 f5 f6 : Addr) (H' : Hp), ExtN H H' → Tabs (TT2 P0 P1) H' → H' p = some (.lst [.ref f1, .ref f2, .ref f3, .ref f4, .ref f5, .ref f6]) → WkAt lamW1 frW1 [some (.ref a), some (.int n)] f1 H' ∧ WkAt lamW2 frW2 [some one, some (.ref a), some (.int n)] f2 H' ∧ WkAt lamW3 frW3 [some (.ref a), some (.int n)] f3 H' ∧ WkAt lamW4 frW4 [some (.ref a), some (.int n)] f4 H' ∧ WkAt lamW5 frW5 [some (.ref a), some (.int n)] f5 H' ∧ WkAt lamW6 frW6 [some (.ref a), some (.int n)] f6 H' → Q (.ref p) H'
abbrev XW (P : Program) (w : World) (K : PySem.W.Frag) (mg : Str → Option Value) (base : Heap) (f c : Addr) (A : Around) (outer : List Env) (s : Shared) (H : Hp) (E : XK) : Cx :=
  cxOf CX0 P w K mg base NW "_law_works" (defScope sWorks) f (.ref c) A outer s H E
theorem ok_works {f c P0 P1 : Addr} {oc kV doc pm ct : Value} {od an : Option Addr} {osl : Array (Option Value)}
    (lk : K.lookup f = some ⟨oc, od, .func (PySem.W.fnOf "_law_works" "_law_works" (defArgs sWorks) (defBody sWorks) (defScope sWorks) .none kV doc pm an (.ref c) ct), osl⟩) (hcd : PySem.W.codeIn K (.ref c) "_law_works" = true) (TB : TabB base mg c P1) (nP : P0 ≠ P1) :
    FnOk P w K mg base CX0 1 f (PySem.W.fnOf "_law_works" "_law_works" (defArgs sWorks) (defBody sWorks) (defScope sWorks) .none kV doc pm an (.ref c) ct) ["_law_wheel_here", "_law_rule_here", "_law_one"] (spWorks P0 P1) := by
  refine fn_ofT lk hcd scWorks (fun vs H Q E h => ?_) (fun A outer s H vs Q E hr h => ?_) (by decide +kernel)
  · obtain ⟨n, a, one, rfl, _⟩ := h
    rfl
  obtain ⟨n, a, one, rfl, tb0, q⟩ := h
  have nd := scWorks.nd
  have hm : (P1, (XW P w K mg base f c A outer s H E).env.qual ++ "<lambda>") ∈ TT2 P0 P1 := List.mem_cons_of_mem _ List.mem_cons_self
  have hu : ∀ p ∈ TT2 P0 P1, p.1 = P1 → p.2 = (XW P w K mg base f c A outer s H E).env.qual ++ "<lambda>" := fun p hp e => by
    rcases List.mem_cons.mp hp with h | h
    · rw [h] at e; exact absurd e nP
    · rw [List.mem_singleton.mp h]; rfl
  refine ⟨_, psr_cons (ps_set (i := 3) nd rfl (.inl rfl) (pe_lst (pa_cons (pe_lm TB rfl hm hu (lamS_by lsW1)) pa_nil)))
    (psr_cons (ps_expr (pe_bm PySem.F.plainAttrs_list PySem.F.slot_list_append PySem.F.type_list_append mt_append (pv 3) (pa_cons (pe_lm TB rfl hm hu (lamS_by lsW2)) pa_nil)))
    (psr_cons (ps_expr (pe_bm PySem.F.plainAttrs_list PySem.F.slot_list_append PySem.F.type_list_append mt_append (pv 3) (pa_cons (pe_lm TB rfl hm hu (lamS_by lsW3)) pa_nil)))
    (psr_cons (ps_expr (pe_bm PySem.F.plainAttrs_list PySem.F.slot_list_append PySem.F.type_list_append mt_append (pv 3) (pa_cons (pe_lm TB rfl hm hu (lamS_by lsW4)) pa_nil)))
    (psr_cons (ps_expr (pe_bm PySem.F.plainAttrs_list PySem.F.slot_list_append PySem.F.type_list_append mt_append (pv 3) (pa_cons (pe_lm TB rfl hm hu (lamS_by lsW5)) pa_nil)))
    (psr_cons (ps_expr (pe_bm PySem.F.plainAttrs_list PySem.F.slot_list_append PySem.F.type_list_append mt_append (pv 3) (pa_cons (pe_lm TB rfl hm hu (lamS_by lsW6)) pa_nil)))
    (psr_ret (pv 3))))))), ?_⟩
  refine ⟨tb0, fun f1 c1 G1 x1 t1 _ l1 k1 => ⟨by show 1 ≤ sizeLine; decide, fun p hpn => ?_⟩⟩
  have X1 : ExtN G1 (upd G1 p (.lst [.ref f1])) := .of (same_new hpn)
  have T1 := t1.ext (same_new (o := .lst [.ref f1]) hpn)
  refine ⟨.ref p, rfl, .inl ⟨rfl, _, SqL.of upd_same⟩, T1, fun f2 c2 G2 x2 t2 _ l2 k2 => ?_⟩
  have p2 : G2 p = some (.lst [.ref f1]) := lst_ext x2 upd_same
  refine ⟨p, _, .ref f2, rfl, rfl, p2, by show 1 < sizeLine; decide, ?_⟩
  have X2 : ExtN G1 (upd G2 p (.lst [.ref f1, .ref f2])) := extN_put (X1.trans x2) hpn
  have T2 : Tabs (TT2 P0 P1) (upd G2 p (.lst [.ref f1, .ref f2])) := tabs_put t2 p2
  refine ⟨.ref p, rfl, .inl ⟨rfl, _, SqL.of upd_same⟩, T2, fun f3 c3 G3 x3 t3 _ l3 k3 => ?_⟩
  have p3 : G3 p = some (.lst [.ref f1, .ref f2]) := lst_ext x3 upd_same
  refine ⟨p, _, .ref f3, rfl, rfl, p3, by show 2 < sizeLine; decide, ?_⟩
  have X3 : ExtN G1 (upd G3 p (.lst [.ref f1, .ref f2, .ref f3])) := extN_put (X2.trans x3) hpn
  have T3 : Tabs (TT2 P0 P1) (upd G3 p (.lst [.ref f1, .ref f2, .ref f3])) := tabs_put t3 p3
  refine ⟨.ref p, rfl, .inl ⟨rfl, _, SqL.of upd_same⟩, T3, fun f4 c4 G4 x4 t4 _ l4 k4 => ?_⟩
  have p4 : G4 p = some (.lst [.ref f1, .ref f2, .ref f3]) := lst_ext x4 upd_same
  refine ⟨p, _, .ref f4, rfl, rfl, p4, by show 3 < sizeLine; decide, ?_⟩
  have X4 : ExtN G1 (upd G4 p (.lst [.ref f1, .ref f2, .ref f3, .ref f4])) := extN_put (X3.trans x4) hpn
  have T4 : Tabs (TT2 P0 P1) (upd G4 p (.lst [.ref f1, .ref f2, .ref f3, .ref f4])) := tabs_put t4 p4
  refine ⟨.ref p, rfl, .inl ⟨rfl, _, SqL.of upd_same⟩, T4, fun f5 c5 G5 x5 t5 _ l5 k5 => ?_⟩
  have p5 : G5 p = some (.lst [.ref f1, .ref f2, .ref f3, .ref f4]) := lst_ext x5 upd_same
  refine ⟨p, _, .ref f5, rfl, rfl, p5, by show 4 < sizeLine; decide, ?_⟩
  have X5 : ExtN G1 (upd G5 p (.lst [.ref f1, .ref f2, .ref f3, .ref f4, .ref f5])) := extN_put (X4.trans x5) hpn
  have T5 : Tabs (TT2 P0 P1) (upd G5 p (.lst [.ref f1, .ref f2, .ref f3, .ref f4, .ref f5])) := tabs_put t5 p5
  refine ⟨.ref p, rfl, .inl ⟨rfl, _, SqL.of upd_same⟩, T5, fun f6 c6 G6 x6 t6 _ l6 k6 => ?_⟩
  have p6 : G6 p = some (.lst [.ref f1, .ref f2, .ref f3, .ref f4, .ref f5]) := lst_ext x6 upd_same
  refine ⟨p, _, .ref f6, rfl, rfl, p6, by show 5 < sizeLine; decide, ?_⟩
  have X6 : ExtN G1 (upd G6 p (.lst [.ref f1, .ref f2, .ref f3, .ref f4, .ref f5, .ref f6])) := extN_put (X5.trans x6) hpn
  have T6 : Tabs (TT2 P0 P1) (upd G6 p (.lst [.ref f1, .ref f2, .ref f3, .ref f4, .ref f5, .ref f6])) := tabs_put t6 p6
  have M1 := LmAt.ext (⟨l1, k1⟩ : LmAt G1 f1 (lamNF (XW P w K mg base f c A outer s H E) (lamP lamW1) (lamS lamW1) c1) (lamB lamW1)) X6
  have M2 := LmAt.put (o := .lst [.ref f1, .ref f2, .ref f3, .ref f4, .ref f5, .ref f6]) (LmAt.ext (LmAt.put (o := .lst [.ref f1, .ref f2, .ref f3, .ref f4, .ref f5]) (LmAt.ext (LmAt.put (o := .lst [.ref f1, .ref f2, .ref f3, .ref f4]) (LmAt.ext (LmAt.put (o := .lst [.ref f1, .ref f2, .ref f3]) (LmAt.ext (LmAt.put (o := .lst [.ref f1, .ref f2]) (⟨l2, k2⟩ : LmAt G2 f2 (lamNF (XW P w K mg base f c A outer s H E) (lamP lamW2) (lamS lamW2) c2) (lamB lamW2)) p2) x3) p3) x4) p4) x5) p5) x6) p6
  have M3 := LmAt.put (o := .lst [.ref f1, .ref f2, .ref f3, .ref f4, .ref f5, .ref f6]) (LmAt.ext (LmAt.put (o := .lst [.ref f1, .ref f2, .ref f3, .ref f4, .ref f5]) (LmAt.ext (LmAt.put (o := .lst [.ref f1, .ref f2, .ref f3, .ref f4]) (LmAt.ext (LmAt.put (o := .lst [.ref f1, .ref f2, .ref f3]) (⟨l3, k3⟩ : LmAt G3 f3 (lamNF (XW P w K mg base f c A outer s H E) (lamP lamW3) (lamS lamW3) c3) (lamB lamW3)) p3) x4) p4) x5) p5) x6) p6
  have M4 := LmAt.put (o := .lst [.ref f1, .ref f2, .ref f3, .ref f4, .ref f5, .ref f6]) (LmAt.ext (LmAt.put (o := .lst [.ref f1, .ref f2, .ref f3, .ref f4, .ref f5]) (LmAt.ext (LmAt.put (o := .lst [.ref f1, .ref f2, .ref f3, .ref f4]) (⟨l4, k4⟩ : LmAt G4 f4 (lamNF (XW P w K mg base f c A outer s H E) (lamP lamW4) (lamS lamW4) c4) (lamB lamW4)) p4) x5) p5) x6) p6
  have M5 := LmAt.put (o := .lst [.ref f1, .ref f2, .ref f3, .ref f4, .ref f5, .ref f6]) (LmAt.ext (LmAt.put (o := .lst [.ref f1, .ref f2, .ref f3, .ref f4, .ref f5]) (⟨l5, k5⟩ : LmAt G5 f5 (lamNF (XW P w K mg base f c A outer s H E) (lamP lamW5) (lamS lamW5) c5) (lamB lamW5)) p5) x6) p6
  have M6 := LmAt.put (o := .lst [.ref f1, .ref f2, .ref f3, .ref f4, .ref f5, .ref f6]) (⟨l6, k6⟩ : LmAt G6 f6 (lamNF (XW P w K mg base f c A outer s H E) (lamP lamW6) (lamS lamW6) c6) (lamB lamW6)) p6
  have hp : (upd G6 p (.lst [.ref f1, .ref f2, .ref f3, .ref f4, .ref f5, .ref f6])) p = some (.lst [.ref f1, .ref f2, .ref f3, .ref f4, .ref f5, .ref f6]) := upd_same
  refine ⟨.ref p, rfl, fun y hy => ?_, fun H1 ok T => ?_⟩
  · have names : ∀ z ∈ (defScope sWorks).names, z.2 = .cell → z.1 = "_law_wheel_here" ∨ z.1 = "_law_rule_here" ∨ z.1 = "_law_one" := by decide +kernel
    rcases names (y, .cell) (PySem.mem_of_lookup hy) rfl with h | h | h
    · have h : y = "_law_wheel_here" := h
      subst h; exact ⟨0, .int n, rfl, rfl⟩
    · have h : y = "_law_rule_here" := h
      subst h; exact ⟨1, .ref a, rfl, rfl⟩
    · have h : y = "_law_one" := h
      subst h; exact ⟨2, one, rfl, rfl⟩
  have kp : ∀ b o, (upd G6 p (.lst [.ref f1, .ref f2, .ref f3, .ref f4, .ref f5, .ref f6])) b = some o → H1 b = some o := fun b o e => T.keep e
  refine q p f1 f2 f3 f4 f5 f6 H1 (fun b o e n => kp _ _ ((x1.trans X6) b o e n)) (T6.ext kp) (kp _ _ hp) ⟨?_, ?_, ?_, ?_, ?_, ?_⟩
  · exact ⟨_, rfl, rfl, kp _ _ M1.1, kp _ _ M1.2, T.cells ok nd (Caps.made ok (ndef_free ndW1) (ndef_fr ndW1) (js := [1, 0]) rfl)⟩
  · exact ⟨_, rfl, rfl, kp _ _ M2.1, kp _ _ M2.2, T.cells ok nd (Caps.made ok (ndef_free ndW2) (ndef_fr ndW2) (js := [2, 1, 0]) rfl)⟩
  · exact ⟨_, rfl, rfl, kp _ _ M3.1, kp _ _ M3.2, T.cells ok nd (Caps.made ok (ndef_free ndW3) (ndef_fr ndW3) (js := [1, 0]) rfl)⟩
  · exact ⟨_, rfl, rfl, kp _ _ M4.1, kp _ _ M4.2, T.cells ok nd (Caps.made ok (ndef_free ndW4) (ndef_fr ndW4) (js := [1, 0]) rfl)⟩
  · exact ⟨_, rfl, rfl, kp _ _ M5.1, kp _ _ M5.2, T.cells ok nd (Caps.made ok (ndef_free ndW5) (ndef_fr ndW5) (js := [1, 0]) rfl)⟩
  · exact ⟨_, rfl, rfl, kp _ _ M6.1, kp _ _ M6.2, T.cells ok nd (Caps.made ok (ndef_free ndW6) (ndef_fr ndW6) (js := [1, 0]) rfl)⟩
end

end K2

namespace K2
open PySem PySem.Spec PyProof.Rows L2 LamX NdefX Lx
abbrev sLaw : Stmt := topS 49
abbrev NL : List Str := ["_law_script", "_law_state", "_law_turn", "_law_time_here", "_law_odd_here", "_law_bad", "_law_works_here", "_law_good", "_law_none", "_law_rule_here", "_law_wheel_here", "_law_work"]
theorem scLaw : FnScope NL ["_law_script"] (defScope sLaw) := ⟨rfl, rfl, rfl, by decide +kernel, rfl, by decide +kernel, by decide +kernel⟩
abbrev lBody : List Stmt := forBody ((defBody sLaw).getD 1 (.Pass ⟨0, 0, 0, 0⟩))
abbrev lSt (i : Nat) : Stmt := lBody.getD i (.Pass ⟨0, 0, 0, 0⟩)
abbrev lam1 : Expr := lstAt 0 (asgV (lSt 11))
abbrev fr1 : List Str := ["_law_good", "_law_none", "_law_rule_here", "_law_wheel_here"]
theorem ns1 : nscB fr1 [] fr1 (lamS lam1) = true := by decide +kernel
theorem nd1 : ndefB (defScope sLaw) (lamS lam1) fr1 = true := by decide +kernel
theorem ls1 : lamSB (defScope sLaw) (lamS lam1) = true := by decide +kernel
abbrev lam2 : Expr := callArg 0 (exprV (lSt 12))
abbrev fr2 : List Str := ["_law_good", "_law_none", "_law_rule_here", "_law_wheel_here"]
theorem ns2 : nscB fr2 [] fr2 (lamS lam2) = true := by decide +kernel
theorem nd2 : ndefB (defScope sLaw) (lamS lam2) fr2 = true := by decide +kernel
theorem ls2 : lamSB (defScope sLaw) (lamS lam2) = true := by decide +kernel
abbrev lam3 : Expr := callArg 0 (exprV (lSt 13))
abbrev fr3 : List Str := ["_law_none", "_law_rule_here", "_law_wheel_here"]
theorem ns3 : nscB fr3 [] fr3 (lamS lam3) = true := by decide +kernel
theorem nd3 : ndefB (defScope sLaw) (lamS lam3) fr3 = true := by decide +kernel
theorem ls3 : lamSB (defScope sLaw) (lamS lam3) = true := by decide +kernel
abbrev lam4 : Expr := callArg 0 (exprV (lSt 14))
abbrev fr4 : List Str := ["_law_rule_here", "_law_wheel_here"]
theorem ns4 : nscB fr4 [] fr4 (lamS lam4) = true := by decide +kernel
theorem nd4 : ndefB (defScope sLaw) (lamS lam4) fr4 = true := by decide +kernel
theorem ls4 : lamSB (defScope sLaw) (lamS lam4) = true := by decide +kernel
abbrev lam5 : Expr := callArg 0 (exprV (lSt 15))
abbrev fr5 : List Str := ["_law_rule_here", "_law_wheel_here"]
theorem ns5 : nscB fr5 [] fr5 (lamS lam5) = true := by decide +kernel
theorem nd5 : ndefB (defScope sLaw) (lamS lam5) fr5 = true := by decide +kernel
theorem ls5 : lamSB (defScope sLaw) (lamS lam5) = true := by decide +kernel
abbrev lam6 : Expr := callArg 0 (exprV (lSt 16))
abbrev fr6 : List Str := ["_law_rule_here", "_law_wheel_here"]
theorem ns6 : nscB fr6 [] fr6 (lamS lam6) = true := by decide +kernel
theorem nd6 : ndefB (defScope sLaw) (lamS lam6) fr6 = true := by decide +kernel
theorem ls6 : lamSB (defScope sLaw) (lamS lam6) = true := by decide +kernel
def spLaw (K : PySem.W.Frag) (P0 P1 : Addr) : Sp := fun vs H Q _ => ∃ (a : Addr) (ns : List Int), vs = [.ref a] ∧ SqL K H a (ns.map V.int) ∧ Tabs (TT2 P0 P1) H ∧ ∀ H', Q (.bl true) H'
abbrev kws : List Str := ["BadSeen", "BadSeen", "BadSeen", "BadGaps", "BadGaps", "BadGaps"]
def spC1 (sp : Sp) : List (Option V) → Hp → VK → XK → Prop := fun ws H Q E => ∃ go no ru wh : V, ws = [some go, some no, some ru, some wh] ∧ sp [wh, ru, no, go, .int 0] H Q E
def spC2 (sp : Sp) : List (Option V) → Hp → VK → XK → Prop := fun ws H Q E => ∃ go no ru wh : V, ws = [some go, some no, some ru, some wh] ∧ sp [wh, ru, go, no, .int 0] H Q E
def spC3 (K : PySem.W.Frag) (CS : Addr) : List (Option V) → Hp → VK → XK → Prop := fun ws H _ E => ∃ (no : V) (n : Int) (a : Addr) (r : Rul) (s : Int × Int), ws = [some no, some (.ref a), some (.int n)] ∧ Wh n ∧ RulOk n r ∧ H a = some (.tup (rulT r)) ∧ SeenAt K H r no s ∧ Sm s.1 ∧ Sm s.2 ∧ ¬ ShOk n r s ∧ ∀ H', Same H H' → E (.ref CS) none H'
def spC4 (CG : Addr) : List (Option V) → Hp → VK → XK → Prop := fun ws H _ E => ∃ (n : Int) (a : Addr) (r : Rul), ws = [some (.ref a), some (.int n)] ∧ Wh n ∧ RulOk n r ∧ H a = some (.tup (rulT r)) ∧ ∀ H', Same H H' → E (.ref CG) none H'
section
variable {P : Program} {w : World} {K : PySem.W.Frag} {mg : Str → Option Value} {base : Heap}
theorem ok_lam1 {C CW CR CS CN CG : Addr} {k i j : Nat} {f : Addr} {F : NF} (D : Kn P w K mg base (L2.CX P w) j "gap" ["wheel", "rule", "one", "other", "about"] (spGap K CW CR CS CN)) (hj : j ≤ k) (hs : F.scope = lamS lam1) (hp : F.params = lamP lam1) :
    LOk P w K mg base (L2.CX P w) (k + 1) f F (lamB lam1) fr1 (spC1 (spGap K CW CR CS CN)) := by
  obtain ⟨name, q, params, bd, scope, cl, c⟩ := F
  obtain rfl : scope = lamS lam1 := hs
  obtain rfl : params = lamP lam1 := hp
  refine lok_of (N := fr1) (nscope_by ns1) (fun _ _ => rfl) (fun A outer s H ws Q E hr hf hc hl h => ?_)
  have hx := passes_call (X := ncx (L2.CX P w) P w K mg base fr1 ⟨name, q, lamP lam1, bd, lamS lam1, cl, c⟩ f A outer s H E) (E := E) (takes_of (E := E) rfl rfl rfl rfl) (fun _ _ _ _ h => h)
  obtain ⟨go, no, ru, wh, rfl, h⟩ := h
  exact ⟨_, pe_knX D hr hj hx (pa_cons (pv 3) (pa_cons (pv 2) (pa_cons (pv 1) (pa_cons (pv 0) (pa_cons pe_int pa_nil))))) rfl, _, rfl, _, rfl, _, rfl, _, rfl, h⟩
theorem ok_lam2 {C CW CR CS CN CG : Addr} {k i j : Nat} {f : Addr} {F : NF} (D : Kn P w K mg base (L2.CX P w) j "gap" ["wheel", "rule", "one", "other", "about"] (spGap K CW CR CS CN)) (hj : j ≤ k) (hs : F.scope = lamS lam2) (hp : F.params = lamP lam2) :
    LOk P w K mg base (L2.CX P w) (k + 1) f F (lamB lam2) fr2 (spC2 (spGap K CW CR CS CN)) := by
  obtain ⟨name, q, params, bd, scope, cl, c⟩ := F
  obtain rfl : scope = lamS lam2 := hs
  obtain rfl : params = lamP lam2 := hp
  refine lok_of (N := fr2) (nscope_by ns2) (fun _ _ => rfl) (fun A outer s H ws Q E hr hf hc hl h => ?_)
  have hx := passes_call (X := ncx (L2.CX P w) P w K mg base fr2 ⟨name, q, lamP lam2, bd, lamS lam2, cl, c⟩ f A outer s H E) (E := E) (takes_of (E := E) rfl rfl rfl rfl) (fun _ _ _ _ h => h)
  obtain ⟨go, no, ru, wh, rfl, h⟩ := h
  exact ⟨_, pe_knX D hr hj hx (pa_cons (pv 3) (pa_cons (pv 2) (pa_cons (pv 0) (pa_cons (pv 1) (pa_cons pe_int pa_nil))))) rfl, _, rfl, _, rfl, _, rfl, _, rfl, h⟩
theorem ok_lam3 {C CW CR CS CN CG : Addr} {k i j : Nat} {f : Addr} {F : NF} (D : KnI P w K mg base (L2.CX P w) i C "Reader" ["self", "wheel", "rule", "begun"] (spRdInit C CW CR K)) (hi : i + 1 ≤ k) (DL : KnM P w K mg base (L2.CX P w) j C "look" ["self", "seen", "about"] [] (spRdLook K C CS CN)) (hj : j ≤ k) (hs : F.scope = lamS lam3) (hp : F.params = lamP lam3) :
    LOk P w K mg base (L2.CX P w) (k + 1) f F (lamB lam3) fr3 (spC3 K CS) := by
  obtain ⟨name, q, params, bd, scope, cl, c⟩ := F
  obtain rfl : scope = lamS lam3 := hs
  obtain rfl : params = lamP lam3 := hp
  refine lok_of (N := fr3) (nscope_by ns3) (fun _ _ => rfl) (fun A outer s H ws Q E hr hf hc hl h => ?_)
  have hx := passes_call (X := ncx (L2.CX P w) P w K mg base fr3 ⟨name, q, lamP lam3, bd, lamS lam3, cl, c⟩ f A outer s H E) (E := E) (takes_of (E := E) rfl rfl rfl rfl) (fun _ _ _ _ h => h)
  obtain ⟨no, n, a, r, sn, rfl, hn, ok, hR, hsn, sm1, sm2, nsh, e⟩ := h
  refine ⟨_, pe_methS (pe_new D hr hi hx (pa_cons (pv 2) (pa_cons (pv 1) (pa_cons pe_int pa_nil))) rfl) DL hr hj (passS hx) (pa_cons (pv 0) (pa_cons pe_int pa_nil)), ?_⟩
  refine ⟨_, rfl, _, rfl, fun x dx nx ndx nex => ?_⟩
  have sB : Same H (upd (upd H dx (.own x)) x (.ins C dx [])) := fun b o e => by
    rw [upd_ne (ne_of_none e nx), upd_ne (ne_of_none e ndx)]
    exact e
  refine ⟨x, dx, n, a, 3, rfl, upd_same, RulIn.ok hn ok (sB _ _ hR) fun H2 u2 R2 => ⟨rfl, ?_⟩⟩
  have s2 : Same H H2 := fun b o e => u2 b o (ne_of_none e nx) (sB b o e)
  obtain ⟨dx2, hp2⟩ := R2.ob
  exact ⟨x, dx2, _, rfl, hp2, rflds_look _ _ _, _, rfl, x, no, .int 0, n, a, r, 3, sn, rfl, R2, hsn.same s2, sm1, sm2, fun _ H3 s3 => e H3 (s2.trans s3), fun z => absurd z nsh⟩
theorem ok_lam4 {C CW CR CS CN CG : Addr} {k i j : Nat} {f : Addr} {F : NF} (D : Kn P w K mg base (L2.CX P w) j "judged" ["wheel", "rule", "least", "most"] (spJudged K CW CR CG)) (hj : j ≤ k) (hs : F.scope = lamS lam4) (hp : F.params = lamP lam4) :
    LOk P w K mg base (L2.CX P w) (k + 1) f F (lamB lam4) fr4 (spC4 CG) := by
  obtain ⟨name, q, params, bd, scope, cl, c⟩ := F
  obtain rfl : scope = lamS lam4 := hs
  obtain rfl : params = lamP lam4 := hp
  refine lok_of (N := fr4) (nscope_by ns4) (fun _ _ => rfl) (fun A outer s H ws Q E hr hf hc hl h => ?_)
  have hx := passes_call (X := ncx (L2.CX P w) P w K mg base fr4 ⟨name, q, lamP lam4, bd, lamS lam4, cl, c⟩ f A outer s H E) (E := E) (takes_of (E := E) rfl rfl rfl rfl) (fun _ _ _ _ h => h)
  obtain ⟨n, a, r, rfl, hn, ok, hR, e⟩ := h
  exact ⟨_, pe_knX D hr hj hx (pa_cons (pv 1) (pa_cons (pv 0) (pa_cons pe_int (pa_cons pe_int pa_nil)))) rfl, _, rfl, _, rfl, n, a, 2, 1, rfl, ⟨by decide, by decide⟩, ⟨by decide, by decide⟩, RulIn.ok hn ok hR ⟨fun _ H' s' => e H' s', fun z => absurd z (by decide)⟩⟩
theorem ok_lam5 {C CW CR CS CN CG : Addr} {k i j : Nat} {f : Addr} {F : NF} (D : Kn P w K mg base (L2.CX P w) j "first_wrong" ["wheel", "rule", "times", "abouts"] (spFirstWrong K CW CR CG)) (hj : j ≤ k) (hs : F.scope = lamS lam5) (hp : F.params = lamP lam5) :
    LOk P w K mg base (L2.CX P w) (k + 1) f F (lamB lam5) fr5 (spC4 CG) := by
  obtain ⟨name, q, params, bd, scope, cl, c⟩ := F
  obtain rfl : scope = lamS lam5 := hs
  obtain rfl : params = lamP lam5 := hp
  refine lok_of (N := fr5) (nscope_by ns5) (fun _ _ => rfl) (fun A outer s H ws Q E hr hf hc hl h => ?_)
  have hx := passes_call (X := ncx (L2.CX P w) P w K mg base fr5 ⟨name, q, lamP lam5, bd, lamS lam5, cl, c⟩ f A outer s H E) (E := E) (takes_of (E := E) rfl rfl rfl rfl) (fun _ _ _ _ h => h)
  obtain ⟨n, a, r, rfl, hn, ok, hR, e⟩ := h
  refine ⟨_, pe_knX D hr hj hx (pa_cons (pv 1) (pa_cons (pv 0) (pa_cons (pe_lst pa_nil) (pa_cons (pe_lst pa_nil) pa_nil)))) rfl, ?_⟩
  refine ⟨_, rfl, _, rfl, Nat.zero_le _, fun p1 h1 => ⟨Nat.zero_le _, fun p2 h2 => ?_⟩⟩
  have s2 := (same_new (o := .lst []) h1).trans (same_new (o := .lst []) h2)
  exact ⟨n, a, p1, p2, [], [], rfl, SqL.of (same_new h2 _ _ upd_same), SqL.of upd_same, by decide, by decide, fun _ z => (nomatch z), RulIn.ok hn ok (s2 _ _ hR) ⟨fun _ H' s' => e H' (s2.trans s'), fun z => absurd rfl z⟩⟩
theorem ok_lam6 {C CW CR CS CN CG : Addr} {k i j : Nat} {f : Addr} {F : NF} (D : Kn P w K mg base (L2.CX P w) j "first_wrong" ["wheel", "rule", "times", "abouts"] (spFirstWrong K CW CR CG)) (hj : j ≤ k) (hs : F.scope = lamS lam6) (hp : F.params = lamP lam6) :
    LOk P w K mg base (L2.CX P w) (k + 1) f F (lamB lam6) fr6 (spC4 CG) := by
  obtain ⟨name, q, params, bd, scope, cl, c⟩ := F
  obtain rfl : scope = lamS lam6 := hs
  obtain rfl : params = lamP lam6 := hp
  refine lok_of (N := fr6) (nscope_by ns6) (fun _ _ => rfl) (fun A outer s H ws Q E hr hf hc hl h => ?_)
  have hx := passes_call (X := ncx (L2.CX P w) P w K mg base fr6 ⟨name, q, lamP lam6, bd, lamS lam6, cl, c⟩ f A outer s H E) (E := E) (takes_of (E := E) rfl rfl rfl rfl) (fun _ _ _ _ h => h)
  obtain ⟨n, a, r, rfl, hn, ok, hR, e⟩ := h
  refine ⟨_, pe_knX D hr hj hx (pa_cons (pv 1) (pa_cons (pv 0) (pa_cons (pe_lst (pa_cons pe_int (pa_cons pe_int pa_nil))) (pa_cons (pe_lst (pa_cons pe_int (pa_cons pe_int pa_nil))) pa_nil)))) rfl, ?_⟩
  refine ⟨_, rfl, _, rfl, by show 2 ≤ sizeLine; decide, fun p1 h1 => ⟨by show 2 ≤ sizeLine; decide, fun p2 h2 => ?_⟩⟩
  have s2 := (same_new (o := .lst [.int 1, .int 2]) h1).trans (same_new (o := .lst [.int 1, .int 1]) h2)
  refine ⟨n, a, p1, p2, [1, 2], [1, 1], rfl, SqL.of (same_new h2 _ _ upd_same), SqL.of upd_same, by decide, by decide, fun x hx => ?_, RulIn.ok hn ok (s2 _ _ hR) ⟨fun _ H' s' => e H' (s2.trans s'), fun _ z => absurd z ?_⟩⟩
  · have hx : x = 1 := by simpa using hx
    rw [hx]; exact ⟨by decide, by decide⟩
  · cases r with
    | about f => show ¬ ((2 : Nat) : Int) = ((2 : Nat) : Int) - 1; decide
    | up l => show ¬ ((2 : Nat) : Int) = 0; decide
    | near => show ¬ ((2 : Nat) : Int) = 0; decide
    | pair o => show ¬ ((2 : Nat) : Int) = 0; decide
abbrev XL (P : Program) (w : World) (K : PySem.W.Frag) (mg : Str → Option Value) (base : Heap) (f c : Addr) (A : Around) (outer : List Env) (s : Shared) (H : Hp) (E : XK) : Cx :=
  (cxOf CX0 P w K mg base NL "law" (defScope sLaw) f (.ref c) A outer s H E).nox
theorem ok_law {f c P0 P1 g C CE CW CR CS CN CG : Addr} {Cs : _root_.Fin 8 → Addr} {oc kV doc pm ct : Value} {od an : Option Addr} {osl : Array (Option Value)}
    (lk : K.lookup f = some ⟨oc, od, .func (PySem.W.fnOf "law" "law" (defArgs sLaw) (defBody sLaw) (defScope sLaw) .none kV doc pm an (.ref c) ct), osl⟩) (hcd : PySem.W.codeIn K (.ref c) "law" = true) (TB : TabB base mg c P0) (nP : P0 ≠ P1) (B : Bl mg)
    (DStart : Kn P w K mg base CX0 1 "_law_start" ["_law_script"] (spStart K)) (DDrawn : Kn P w K mg base CX0 1 "_law_drawn" ["_law_state", "_law_many"] (spDrawn K))
    (DWheel : Kn P w K mg base CX0 2 "_law_wheel" ["_law_state"] (spWheel K)) (DRule : Kn P w K mg base CX0 3 "_law_rule" ["_law_state", "_law_wheel_here"] (spRule K)) (DTime : Kn P w K mg base CX0 2 "_law_time" ["_law_state"] (spTime K))
    (DFar : Kn P w K mg base CX0 2 "_law_far" ["_law_state", "_law_least", "_law_most"] (spFar K)) (DSame : Kn P w K mg base CX0 2 "_law_same" ["_law_found", "_law_due"] spSame1)
    (DLShown : Kn P w K mg base CX0 1 "_law_shown" ["_law_wheel_here", "_law_rule_here", "_law_time_here"] spLawShownT) (DOdd : Kn P w K mg base CX0 3 "_law_odd" ["_law_state", "_law_wheel_here"] (spOdd K))
    (DWorks : Kn P w K mg base CX0 1 "_law_works" ["_law_wheel_here", "_law_rule_here", "_law_one"] (spWorks P0 P1))
    (DShown : Kn P w K mg base (L2.CX P w) 8 "shown" ["wheel", "rule", "time"] (spShownT CW CR)) (DGap : Kn P w K mg base (L2.CX P w) 8 "gap" ["wheel", "rule", "one", "other", "about"] (spGap K CW CR CS CN))
    (DBound : Kn P w K mg base (L2.CX P w) 8 "bound" ["wheel", "rule"] (spBound K CW CR)) (DJudged : Kn P w K mg base (L2.CX P w) 8 "judged" ["wheel", "rule", "least", "most"] (spJudged K CW CR CG))
    (DI : KnI P w K mg base (L2.CX P w) 7 C "Reader" ["self", "wheel", "rule", "begun"] (spRdInit C CW CR K)) (DLook : KnM P w K mg base (L2.CX P w) 8 C "look" ["self", "seen", "about"] [] (spRdLook K C CS CN))
    (DFirst : Kn P w K mg base (L2.CX P w) 8 "first_wrong" ["wheel", "rule", "times", "abouts"] (spFirstWrong K CW CR CG))
    (G : TakesLam P w K mg base 10 9 g (TTK K CE Cs)) (GC : TakesCal P w K mg base 10 9 g (TTK K CE Cs)) (gk : mg "_law_kind" = some (.ref g)) (kk : PySem.W.keepIn K (.ref g) = true) (kdW : Kd K CE Cs CW 0) (kdR : Kd K CE Cs CR 1) (kdS : Kd K CE Cs CS 2) (kdG : Kd K CE Cs CG 3) :
    FnOk P w K mg base CX0 11 f (PySem.W.fnOf "law" "law" (defArgs sLaw) (defBody sLaw) (defScope sLaw) .none kV doc pm an (.ref c) ct) ["_law_script"] (spLaw K P0 P1) := by
  refine fn_of lk hcd scLaw (fun vs H Q E h => ?_) fun A outer s H vs Q E hr h => ?_
  · obtain ⟨a, ns, rfl, _⟩ := h
    rfl
  obtain ⟨a, ns0, rfl, hS, tb, q⟩ := h
  have nd := scLaw.nd
  have hm : (P0, (XL P w K mg base f c A outer s H E).env.qual ++ "<lambda>") ∈ TT2 P0 P1 := List.mem_cons_self
  have hu : ∀ p ∈ TT2 P0 P1, p.1 = P0 → p.2 = (XL P w K mg base f c A outer s H E).env.qual ++ "<lambda>" := fun p hp e => by
    rcases List.mem_cons.mp hp with h | h
    · rw [h]; rfl
    · rw [List.mem_singleton.mp h] at e; exact absurd e.symm nP
  suffices h : ∃ t, PSs (XL P w K mg base f c A outer s H E) (defBody sLaw) t ∧ t { nx := fun _ H' => Q .non H', rt := Q } (start NL [.ref a]) H by
    obtain ⟨t, h1, h2⟩ := h
    exact ⟨t, h1.nox, h2⟩
  refine ⟨_, pss_cons (ps_set (i := 1) nd rfl (.inl rfl) (pe_kn DStart hr (by decide) (pa_cons (pv 0) pa_nil) rfl))
    (pss_cons (ps_for PassesOwn.never rfl (pi_range1 (by rfl) B.rng (pa_cons pe_int pa_nil)) (pg_name (i := 2) nd rfl (.inl rfl))
      (pss_cons (ps_set (i := 10) nd rfl (.inr rfl) (pe_kn DWheel hr (by decide) (pa_cons (pv 1) pa_nil) rfl))
      (pss_cons (ps_set (i := 9) nd rfl (.inr rfl) (pe_kn DRule hr (by decide) (pa_cons (pv 1) (pa_cons (pv 10) pa_nil)) rfl))
      (pss_cons (ps_set (i := 3) nd rfl (.inl rfl) (pe_kn DTime hr (by decide) (pa_cons (pv 1) pa_nil) rfl))
      (C8.pss_cut (ps_if (pt_not (pt_val (pe_kn DSame hr (by decide) (pa_cons (pe_knL DShown hr (by decide) (pa_cons (pv 10) (pa_cons (pv 9) (pa_cons (pv 3) pa_nil))) rfl) (pa_cons (pe_kn DLShown hr (by decide) (pa_cons (pv 10) (pa_cons (pv 9) (pa_cons (pv 3) pa_nil))) rfl) pa_nil)) rfl))) (pss_one (ps_ret pe_bl)) pss_nil)
      (pss_cons (ps_set (i := 4) nd rfl (.inl rfl) (pe_kn DOdd hr (by decide) (pa_cons (pv 1) (pa_cons (pv 10) pa_nil)) rfl))
      (pss_cons (ps_set (i := 5) nd rfl (.inl rfl) (pe_kn DFar hr (by decide) (pa_cons (pv 1) (pa_cons pe_int (pa_cons (pe_op op_pow pe_int pe_int) pa_nil))) rfl))
      (C8.pss_cut (ps_if (pt_cmpR (op_neD hr.units) (pe_lc (own := [("_law_work", 11)]) (g := gName 11) rfl nd (pi_list (pe_kn DWorks hr (by decide) (pa_cons (pv 5) (pa_cons (pv 4) (pa_cons (pe_op op_sub pe_int pe_int) pa_nil))) rfl))
          (blkOk_by (own := [("_law_work", 11)]) (N := NL) (sc := defScope sLaw) (by decide +kernel)) (fun _ _ _ _ _ => pg_name (i := 11) nd rfl (.inl rfl))
          (fun _ _ _ _ _ => pts_one (pt_cmpR op_ne (pe_kindC GC ⟨rfl, rfl, rfl, rfl, rfl⟩ hr rfl gk kk (pv 11)) pe_str (nomark _))) (fun _ _ _ _ _ => pv 11)) (pe_lst pa_nil) (nomark _)) (pss_one (ps_ret pe_bl)) pss_nil)
      (C8.pss_cut (ps_if (pt_cmpR (op_neD hr.units) (pe_lc (own := [("_law_work", 11)]) (g := gName 11) rfl nd (pi_list (pe_kn DWorks hr (by decide) (pa_cons (pv 10) (pa_cons (pv 4) (pa_cons (pe_op op_sub pe_int pe_int) pa_nil))) rfl))
          (blkOk_by (own := [("_law_work", 11)]) (N := NL) (sc := defScope sLaw) (by decide +kernel)) (fun _ _ _ _ _ => pg_name (i := 11) nd rfl (.inl rfl))
          (fun _ _ _ _ _ => pts_one (pt_cmpR op_ne (pe_kindC GC ⟨rfl, rfl, rfl, rfl, rfl⟩ hr rfl gk kk (pv 11)) pe_str (nomark _))) (fun _ _ _ _ _ => pv 11)) (pe_lst pa_nil) (nomark _)) (pss_one (ps_ret pe_bl)) pss_nil)
      (pss_cons (ps_set (i := 7) nd rfl (.inr rfl) (pe_kn DLShown hr (by decide) (pa_cons (pv 10) (pa_cons (pv 9) (pa_cons (pv 3) pa_nil))) rfl))
      (pss_cons (ps_set (i := 8) nd rfl (.inr rfl) (pe_kn DFar hr (by decide) (pa_cons (pv 1) (pa_cons pe_int (pa_cons (pe_op op_sub (pv 10) pe_int) pa_nil))) rfl))
      (C8.pss_cut (ps_if (pt_cmpR op_eq (pe_ix ix_tup (pv 9) pe_int (fun _ _ => rfl)) pe_str (nomark _)) (pss_one (ps_set (i := 8) nd rfl (.inr rfl) (pe_ix ix_list (pe_lst (pa_cons (pe_tup (pa_cons (pv 8) (pa_cons (pe_ix ix_tup (pv 7) pe_int (fun _ _ => rfl)) pa_nil)))
          (pa_cons (pe_tup (pa_cons (pe_ix ix_tup (pv 7) pe_int (fun _ _ => rfl)) (pa_cons (pe_kn DFar hr (by decide) (pa_cons (pv 1) (pa_cons pe_int (pa_cons (pe_op op_sub (pe_ix ix_tup (pv 9) pe_int (fun _ _ => rfl)) pe_int) pa_nil))) rfl) pa_nil))) pa_nil)))
          (pe_kn DDrawn hr (by decide) (pa_cons (pv 1) (pa_cons pe_int pa_nil)) rfl) (fun _ _ => rfl)))) pss_nil)
      (pss_cons (ps_set (i := 6) nd rfl (.inl rfl) (pe_lst (pa_cons (pe_lm TB rfl hm hu (lamS_by ls1)) pa_nil)))
      (pss_cons (ps_expr (pe_bm PySem.F.plainAttrs_list PySem.F.slot_list_append PySem.F.type_list_append mt_append (pv 6) (pa_cons (pe_lm TB rfl hm hu (lamS_by ls2)) pa_nil)))
      (pss_cons (ps_expr (pe_bm PySem.F.plainAttrs_list PySem.F.slot_list_append PySem.F.type_list_append mt_append (pv 6) (pa_cons (pe_lm TB rfl hm hu (lamS_by ls3)) pa_nil)))
      (pss_cons (ps_expr (pe_bm PySem.F.plainAttrs_list PySem.F.slot_list_append PySem.F.type_list_append mt_append (pv 6) (pa_cons (pe_lm TB rfl hm hu (lamS_by ls4)) pa_nil)))
      (pss_cons (ps_expr (pe_bm PySem.F.plainAttrs_list PySem.F.slot_list_append PySem.F.type_list_append mt_append (pv 6) (pa_cons (pe_lm TB rfl hm hu (lamS_by ls5)) pa_nil)))
      (pss_cons (ps_expr (pe_bm PySem.F.plainAttrs_list PySem.F.slot_list_append PySem.F.type_list_append mt_append (pv 6) (pa_cons (pe_lm TB rfl hm hu (lamS_by ls6)) pa_nil)))
      (pss_one (ps_if (pt_cmpR (op_neD hr.units) (pe_lcI (own := [("_law_work", 11)]) (g := gName 11) (tts := fun _ => tYes)
          (te := fun σ => tKind (XL P w K mg base f c A outer s H E) 9 (TTK K CE Cs) (fun _ => ownCells (XL P w K mg base f c A outer s H E) σ) (tVar 11))
          rfl nd (pi_list (pv 6)) (blkOk_by (own := [("_law_work", 11)]) (N := NL) (sc := defScope sLaw) (by decide +kernel))
          (fun _ _ _ _ _ => pg_name (i := 11) nd rfl (.inl rfl)) (fun _ _ _ _ _ _ _ _ => pts_nil)
          (fun _ _ _ _ _ _ _ at_ => pe_kind G hr (blkCells_at at_.inv at_.fp) rfl gk kk (pv 11)))
        (pe_op op_cat (pe_op op_rep (pe_lst (pa_cons pe_str pa_nil)) pe_int) (pe_op op_rep (pe_lst (pa_cons pe_str pa_nil)) pe_int)) (nomark _)) (pss_one (ps_ret pe_bl)) pss_nil))))))))))))))))))))
    (pss_one (ps_ret pe_bl))), ?_⟩
  refine ⟨.ref a, rfl, a, ns0, rfl, hS, fun S H1 sm1 nS st1 => ?_⟩
  have tb1 : Tabs (TT2 P0 P1) H1 := tb.ext sm1
  refine ⟨12, rfl, by decide, by decide, for_range (lo := 0) (n := 12)
    (fun _ σ H' => (∃ y2 y3 y4 y5 y6 y7 y8 y9 y10 y11, σ = [some (.ref a), some (.ref S), y2, y3, y4, y5, y6, y7, y8, y9, y10, y11]) ∧ StAt K S H' ∧ Tabs (TT2 P0 P1) H')
    ⟨⟨_, _, _, _, _, _, _, _, _, _, rfl⟩, st1, tb1⟩ (fun i σ H2 _ hP => ?_) (fun σ H2 _ => q H2)⟩
  obtain ⟨⟨y2, y3, y4, y5, y6, y7, y8, y9, y10, y11, rfl⟩, st2, tb2⟩ := hP
  refine ⟨.ref S, rfl, S, rfl, st2, fun n H3 hn b3 st3 => ?_⟩
  obtain ⟨n1, n2⟩ := id hn
  have smn : Sm n := ⟨by omega, by omega⟩
  refine ⟨.ref S, rfl, .int n, rfl, S, n, rfl, hn, st3, fun ra r H4 ok b4 st4 hR4 => ?_⟩
  refine ⟨.ref S, rfl, S, rfl, st4, fun t H5 _ b5 st5 => ?_⟩
  have hR5 := rule_but st4 b5 hR4
  have tb5 : Tabs (TT2 P0 P1) H5 := tabs_but tb2 ((b3.trans b4).trans b5) st2
  have ms := shok_sm (s := t) hn ok
  have sh := sh_ok (t := t) hn ok
  -- shown
  refine ⟨fun σ' H' => (∃ z2, σ' = [some (.ref a), some (.ref S), z2, some (.int t), y4, y5, y6, y7, y8, some (.ref ra), some (.int n), y11]) ∧ Same H5 H', ?_, ?_⟩
  · refine ⟨.int n, rfl, .ref ra, rfl, .int t, rfl, n, ra, t, rfl, RulIn.ok hn ok hR5 fun H6 v s6 hv => ?_⟩
    refine ⟨.int n, rfl, .ref ra, rfl, .int t, rfl, n, ra, t, r, rfl, hn, ok, s6 _ _ hR5, fun H7 v2 s7 hv2 => ?_⟩
    exact ⟨v, v2, rfl, fun H8 s8 => ⟨_, rfl, iteF ⟨⟨_, rfl⟩, (s6.trans s7).trans s8⟩⟩, seen_same1 (hv.same s7) hv2⟩
  rintro σ8 H8 ⟨⟨z2, rfl⟩, s8⟩
  have st8 := st5.same s8
  have tb8 := tb5.ext s8
  have hR8 := s8 _ _ hR5
  clear st2 st3 st4 st5 tb2 tb5 hR4 hR5 b3 b4 b5 s8
  -- odd, bad
  refine ⟨.ref S, rfl, .int n, rfl, S, n, rfl, hn, st8, fun oa xs H9 rf rb b9 st9 eo9 => ?_⟩
  refine ⟨.ref S, rfl, 10, 12, rfl, rfl, ⟨by decide, by decide, by decide⟩, S, 2, _, rfl, st9, by decide, by decide, by decide, by decide, fun bad H10 hbad smb b10 st10 => ?_⟩
  have nbad : ¬ Wh bad := fun z => by
    have z1 := z.1
    have z2 := z.2
    rcases hbad with h | h
    · omega
    · have : (10 : Int) ^ (12 : Int).toNat = 1000000000000 := by decide
      omega
  have tb10 : Tabs (TT2 P0 P1) H10 := tabs_but tb8 (b9.trans b10) st8
  have hR10 := rule_but st8 (b9.trans b10) hR8
  have eo10 := rule_but st9 b10 eo9
  clear st8 st9 tb8 hR8 b9 b10 eo9
  -- a wheel that is none
  refine ⟨fun σ' H' => σ' = [some (.ref a), some (.ref S), z2, some (.int t), some (.ref oa), some (.int bad), y6, y7, y8, some (.ref ra), some (.int n), y11] ∧ ExtN H10 H' ∧ Tabs (TT2 P0 P1) H', ?_, ?_⟩
  · refine ⟨.int bad, rfl, .ref oa, rfl, _, _, rfl, rfl, bad, oa, .int (0 - 1), rfl, tb10, fun p f1 f2 f3 f4 f5 f6 HW xW tbW eW hW => ?_⟩
    obtain ⟨w1, w2, w3, w4, w5, w6⟩ := hW
    have eoW := rule_ext xW eo10
    refine ⟨p, rfl, ⟨_, SqL.of eW⟩, fun D hD => ?_⟩
    refine lc_list (K := K) (a := p) (xs := [.ref f1, .ref f2, .ref f3, .ref f4, .ref f5, .ref f6]) (fun i H' => Same HW H' ∧ H' D = some (.lst [])) ⟨same_new hD, upd_same⟩ (fun i H' _ h => SqL.of (h.1 _ _ eW)) (fun i x H' hx hP => ?_) (fun H' hP => ?_)
    · obtain ⟨sm, eD⟩ := hP
      have six : i = 0 ∨ i = 1 ∨ i = 2 ∨ i = 3 ∨ i = 4 ∨ i = 5 := by
        have := (List.getElem?_eq_some_iff.mp hx).1
        simp only [List.length_cons, List.length_nil] at this
        omega
      have eo' := sm _ _ eoW
      rcases six with rfl | rfl | rfl | rfl | rfl | rfl
      · obtain rfl : V.ref f1 = x := Option.some.inj hx
        obtain ⟨F, h1, h2, h3, h4, h5⟩ := w1.same sm
        refine ⟨rfl, .ref f1, rfl, f1, _, rfl, (ok_lamW1 (C := C) (CW := CW) (CR := CR) (CS := CS) (CN := CN) (CG := CG) (F := F) DShown (k := 8) (by decide) h1 h2).cal, fun E hE => ⟨h3, h4, h5, bad, oa, rfl, BadIn.mn h5 ⟨xs, smb.sm, eo', rf, fun _ H1 s1 => hE CW 0 H1 kdW fun H2 s2 => ⟨rfl, _, rfl, iteNS rfl ⟨sm.trans (s1.trans s2), (s1.trans s2) _ _ eD⟩⟩, fun z => absurd z nbad, fun z => absurd z nbad⟩⟩⟩
      · obtain rfl : V.ref f2 = x := Option.some.inj hx
        obtain ⟨F, h1, h2, h3, h4, h5⟩ := w2.same sm
        refine ⟨rfl, .ref f2, rfl, f2, _, rfl, (ok_lamW2 (C := C) (CW := CW) (CR := CR) (CS := CS) (CN := CN) (CG := CG) (F := F) DGap (k := 8) (by decide) h1 h2).cal, fun E hE => ⟨h3, h4, h5, bad, oa, .int (0 - 1), rfl, BadIn.mn h5 ⟨xs, smb.sm, eo', rf, fun _ H1 s1 => hE CW 0 H1 kdW fun H2 s2 => ⟨rfl, _, rfl, iteNS rfl ⟨sm.trans (s1.trans s2), (s1.trans s2) _ _ eD⟩⟩, fun z => absurd z nbad, fun z => absurd z nbad⟩⟩⟩
      · obtain rfl : V.ref f3 = x := Option.some.inj hx
        obtain ⟨F, h1, h2, h3, h4, h5⟩ := w3.same sm
        refine ⟨rfl, .ref f3, rfl, f3, _, rfl, (ok_lamW3 (C := C) (CW := CW) (CR := CR) (CS := CS) (CN := CN) (CG := CG) (F := F) DBound (k := 8) (by decide) h1 h2).cal, fun E hE => ⟨h3, h4, h5, bad, oa, rfl, BadIn.mn h5 ⟨xs, smb.sm, eo', rf, fun _ H1 s1 => hE CW 0 H1 kdW fun H2 s2 => ⟨rfl, _, rfl, iteNS rfl ⟨sm.trans (s1.trans s2), (s1.trans s2) _ _ eD⟩⟩, fun z => absurd z nbad, fun z => absurd z nbad⟩⟩⟩
      · obtain rfl : V.ref f4 = x := Option.some.inj hx
        obtain ⟨F, h1, h2, h3, h4, h5⟩ := w4.same sm
        refine ⟨rfl, .ref f4, rfl, f4, _, rfl, (ok_lamW4 (C := C) (CW := CW) (CR := CR) (CS := CS) (CN := CN) (CG := CG) (F := F) DJudged (k := 8) (by decide) h1 h2).cal, fun E hE => ⟨h3, h4, h5, bad, oa, rfl, BadIn.mn h5 ⟨xs, smb.sm, eo', rf, fun _ H1 s1 => hE CW 0 H1 kdW fun H2 s2 => ⟨rfl, _, rfl, iteNS rfl ⟨sm.trans (s1.trans s2), (s1.trans s2) _ _ eD⟩⟩, fun z => absurd z nbad, fun z => absurd z nbad⟩⟩⟩
      · obtain rfl : V.ref f5 = x := Option.some.inj hx
        obtain ⟨F, h1, h2, h3, h4, h5⟩ := w5.same sm
        refine ⟨rfl, .ref f5, rfl, f5, _, rfl, (ok_lamW5 (C := C) (CW := CW) (CR := CR) (CS := CS) (CN := CN) (CG := CG) (F := F) DI (k := 8) (by decide) h1 h2).cal, fun E hE => ⟨h3, h4, h5, bad, oa, rfl, BadIn.mn h5 ⟨xs, smb.sm, eo', rf, fun _ H1 s1 => hE CW 0 H1 kdW fun H2 s2 => ⟨rfl, _, rfl, iteNS rfl ⟨sm.trans (s1.trans s2), (s1.trans s2) _ _ eD⟩⟩, fun z => absurd z nbad, fun z => absurd z nbad⟩⟩⟩
      · obtain rfl : V.ref f6 = x := Option.some.inj hx
        obtain ⟨F, h1, h2, h3, h4, h5⟩ := w6.same sm
        refine ⟨rfl, .ref f6, rfl, f6, _, rfl, (ok_lamW6 (C := C) (CW := CW) (CR := CR) (CS := CS) (CN := CN) (CG := CG) (F := F) DFirst (k := 8) (by decide) h1 h2).cal, fun E hE => ⟨h3, h4, h5, bad, oa, rfl, BadIn.mn h5 ⟨xs, smb.sm, eo', rf, fun _ H1 s1 => hE CW 0 H1 kdW fun H2 s2 => ⟨rfl, _, rfl, iteNS rfl ⟨sm.trans (s1.trans s2), (s1.trans s2) _ _ eD⟩⟩, fun z => absurd z nbad, fun z => absurd z nbad⟩⟩⟩
    · obtain ⟨sm, eD⟩ := hP
      refine ⟨Nat.zero_le _, fun q1 hq1 => ?_⟩
      have s1 := same_new (o := .lst []) hq1
      exact ne_ints (ns := []) (SqL.of (s1 _ _ eD)) (SqL.of upd_same) ⟨_, rfl, iteF ⟨rfl, xW.trans (ExtN.of (sm.trans s1)), (tbW.ext sm).ext s1⟩⟩
  rintro σ11 H11 ⟨rfl, x11, tb11⟩
  have eo11 := rule_ext x11 eo10
  have hR11 := rule_ext x11 hR10
  have st11 := st10.ext x11
  -- a rule that is none
  refine ⟨fun σ' H' => σ' = [some (.ref a), some (.ref S), z2, some (.int t), some (.ref oa), some (.int bad), y6, y7, y8, some (.ref ra), some (.int n), y11] ∧ ExtN H11 H' ∧ Tabs (TT2 P0 P1) H', ?_, ?_⟩
  · refine ⟨.int n, rfl, .ref oa, rfl, _, _, rfl, rfl, n, oa, .int (0 - 1), rfl, tb11, fun p f1 f2 f3 f4 f5 f6 HW xW tbW eW hW => ?_⟩
    obtain ⟨w1, w2, w3, w4, w5, w6⟩ := hW
    have eoW := rule_ext xW eo11
    refine ⟨p, rfl, ⟨_, SqL.of eW⟩, fun D hD => ?_⟩
    refine lc_list (K := K) (a := p) (xs := [.ref f1, .ref f2, .ref f3, .ref f4, .ref f5, .ref f6]) (fun i H' => Same HW H' ∧ H' D = some (.lst [])) ⟨same_new hD, upd_same⟩ (fun i H' _ h => SqL.of (h.1 _ _ eW)) (fun i x H' hx hP => ?_) (fun H' hP => ?_)
    · obtain ⟨sm, eD⟩ := hP
      have six : i = 0 ∨ i = 1 ∨ i = 2 ∨ i = 3 ∨ i = 4 ∨ i = 5 := by
        have := (List.getElem?_eq_some_iff.mp hx).1
        simp only [List.length_cons, List.length_nil] at this
        omega
      have eo' := sm _ _ eoW
      rcases six with rfl | rfl | rfl | rfl | rfl | rfl
      · obtain rfl : V.ref f1 = x := Option.some.inj hx
        obtain ⟨F, h1, h2, h3, h4, h5⟩ := w1.same sm
        refine ⟨rfl, .ref f1, rfl, f1, _, rfl, (ok_lamW1 (C := C) (CW := CW) (CR := CR) (CS := CS) (CN := CN) (CG := CG) (F := F) DShown (k := 8) (by decide) h1 h2).cal, fun E hE => ⟨h3, h4, h5, n, oa, rfl, BadIn.mn h5 ⟨xs, smn, eo', rf, fun z => absurd hn z, fun _ _ H1 s1 => hE CR 1 H1 kdR fun H2 s2 => ⟨rfl, _, rfl, iteNS rfl ⟨sm.trans (s1.trans s2), (s1.trans s2) _ _ eD⟩⟩, fun _ => rb⟩⟩⟩
      · obtain rfl : V.ref f2 = x := Option.some.inj hx
        obtain ⟨F, h1, h2, h3, h4, h5⟩ := w2.same sm
        refine ⟨rfl, .ref f2, rfl, f2, _, rfl, (ok_lamW2 (C := C) (CW := CW) (CR := CR) (CS := CS) (CN := CN) (CG := CG) (F := F) DGap (k := 8) (by decide) h1 h2).cal, fun E hE => ⟨h3, h4, h5, n, oa, .int (0 - 1), rfl, BadIn.mn h5 ⟨xs, smn, eo', rf, fun z => absurd hn z, fun _ _ H1 s1 => hE CR 1 H1 kdR fun H2 s2 => ⟨rfl, _, rfl, iteNS rfl ⟨sm.trans (s1.trans s2), (s1.trans s2) _ _ eD⟩⟩, fun _ => rb⟩⟩⟩
      · obtain rfl : V.ref f3 = x := Option.some.inj hx
        obtain ⟨F, h1, h2, h3, h4, h5⟩ := w3.same sm
        refine ⟨rfl, .ref f3, rfl, f3, _, rfl, (ok_lamW3 (C := C) (CW := CW) (CR := CR) (CS := CS) (CN := CN) (CG := CG) (F := F) DBound (k := 8) (by decide) h1 h2).cal, fun E hE => ⟨h3, h4, h5, n, oa, rfl, BadIn.mn h5 ⟨xs, smn, eo', rf, fun z => absurd hn z, fun _ _ H1 s1 => hE CR 1 H1 kdR fun H2 s2 => ⟨rfl, _, rfl, iteNS rfl ⟨sm.trans (s1.trans s2), (s1.trans s2) _ _ eD⟩⟩, fun _ => rb⟩⟩⟩
      · obtain rfl : V.ref f4 = x := Option.some.inj hx
        obtain ⟨F, h1, h2, h3, h4, h5⟩ := w4.same sm
        refine ⟨rfl, .ref f4, rfl, f4, _, rfl, (ok_lamW4 (C := C) (CW := CW) (CR := CR) (CS := CS) (CN := CN) (CG := CG) (F := F) DJudged (k := 8) (by decide) h1 h2).cal, fun E hE => ⟨h3, h4, h5, n, oa, rfl, BadIn.mn h5 ⟨xs, smn, eo', rf, fun z => absurd hn z, fun _ _ H1 s1 => hE CR 1 H1 kdR fun H2 s2 => ⟨rfl, _, rfl, iteNS rfl ⟨sm.trans (s1.trans s2), (s1.trans s2) _ _ eD⟩⟩, fun _ => rb⟩⟩⟩
      · obtain rfl : V.ref f5 = x := Option.some.inj hx
        obtain ⟨F, h1, h2, h3, h4, h5⟩ := w5.same sm
        refine ⟨rfl, .ref f5, rfl, f5, _, rfl, (ok_lamW5 (C := C) (CW := CW) (CR := CR) (CS := CS) (CN := CN) (CG := CG) (F := F) DI (k := 8) (by decide) h1 h2).cal, fun E hE => ⟨h3, h4, h5, n, oa, rfl, BadIn.mn h5 ⟨xs, smn, eo', rf, fun z => absurd hn z, fun _ _ H1 s1 => hE CR 1 H1 kdR fun H2 s2 => ⟨rfl, _, rfl, iteNS rfl ⟨sm.trans (s1.trans s2), (s1.trans s2) _ _ eD⟩⟩, fun _ => rb⟩⟩⟩
      · obtain rfl : V.ref f6 = x := Option.some.inj hx
        obtain ⟨F, h1, h2, h3, h4, h5⟩ := w6.same sm
        refine ⟨rfl, .ref f6, rfl, f6, _, rfl, (ok_lamW6 (C := C) (CW := CW) (CR := CR) (CS := CS) (CN := CN) (CG := CG) (F := F) DFirst (k := 8) (by decide) h1 h2).cal, fun E hE => ⟨h3, h4, h5, n, oa, rfl, BadIn.mn h5 ⟨xs, smn, eo', rf, fun z => absurd hn z, fun _ _ H1 s1 => hE CR 1 H1 kdR fun H2 s2 => ⟨rfl, _, rfl, iteNS rfl ⟨sm.trans (s1.trans s2), (s1.trans s2) _ _ eD⟩⟩, fun _ => rb⟩⟩⟩
    · obtain ⟨sm, eD⟩ := hP
      refine ⟨Nat.zero_le _, fun q1 hq1 => ?_⟩
      have s1 := same_new (o := .lst []) hq1
      exact ne_ints (ns := []) (SqL.of (s1 _ _ eD)) (SqL.of upd_same) ⟨_, rfl, iteF ⟨rfl, xW.trans (ExtN.of (sm.trans s1)), (tbW.ext sm).ext s1⟩⟩
  rintro σ12 H12 ⟨rfl, x12, tb12⟩
  have hR12 := rule_ext x12 hR11
  have st12 := st11.ext x12
  clear st10 st11 tb10 tb11 eo10 eo11 hR10 hR11 x11 x12
  -- good, none
  refine ⟨.int n, rfl, .ref ra, rfl, .int t, rfl, n, ra, t, r, rfl, hn, ok, hR12, fun H13 gv s13 hgv => ?_⟩
  have st13 := st12.same s13
  have tb13 := tb12.ext s13
  have hR13 := s13 _ _ hR12
  refine ⟨.ref S, rfl, .int n, rfl, _, _, rfl, rfl, S, 0, _, rfl, st13, by decide, by decide, by omega, by omega, fun no H14 hno smo b14 st14 => ?_⟩
  have tb14 := tabs_but tb13 b14 st13
  have hR14 := rule_but st13 b14 hR13
  have hgv14 : SeenAt K H14 r gv (shS n r t) := (hgv.at_ (K := K)).but st13 b14
  have nno : ¬ Sn n no := fun z => by
    have z1 := z.1
    have z2 := z.2
    rcases hno with h | h <;> omega
  refine ⟨fun σ' H' => ∃ (nv : V) (ns : Int × Int), σ' = [some (.ref a), some (.ref S), z2, some (.int t), some (.ref oa), some (.int bad), y6, some gv, some nv, some (.ref ra), some (.int n), y11] ∧
    SeenAt K H' r nv ns ∧ ¬ ShOk n r ns ∧ Sm ns.1 ∧ Sm ns.2 ∧ SeenAt K H' r gv (shS n r t) ∧ StAt K S H' ∧ Tabs (TT2 P0 P1) H' ∧ H' ra = some (.tup (rulT r)), ?_, ?_⟩
  · have hT14 : SqT K H14 ra (rulT r) := SqT.of hR14
    have sm0 : Sm 0 := ⟨by decide, by decide⟩
    cases r with
    | up l => exact ⟨.ref ra, rfl, ra, _, 0, _, rfl, rfl, hT14, rfl, rfl, _, rfl, iteF ⟨.int no, (no, 0), rfl, rfl, nno, smo.sm, sm0, hgv14, st14, tb14, hR14⟩⟩
    | near => exact ⟨.ref ra, rfl, ra, _, 0, _, rfl, rfl, hT14, rfl, rfl, _, rfl, iteF ⟨.int no, (no, 0), rfl, rfl, nno, smo.sm, sm0, hgv14, st14, tb14, hR14⟩⟩
    | about l => exact ⟨.ref ra, rfl, ra, _, 0, _, rfl, rfl, hT14, rfl, rfl, _, rfl, iteF ⟨.int no, (no, 0), rfl, rfl, nno, smo.sm, sm0, hgv14, st14, tb14, hR14⟩⟩
    | pair o =>
      obtain ⟨pg, rfl, hpg⟩ := id hgv14
      obtain ⟨o1, o2⟩ : Wh o := ok
      refine ⟨.ref ra, rfl, ra, _, 0, _, rfl, rfl, hT14, rfl, rfl, _, rfl, iteT ?_⟩
      refine ⟨.int no, rfl, .ref pg, rfl, pg, _, 1, _, rfl, rfl, hpg, rfl, by show 2 ≤ sizeLine; decide, fun t1 h1 => ?_⟩
      have s1 := same_new (o := .tup [.int no, .int (shS n (.pair o) t).2]) h1
      have e1 : upd H14 t1 (.tup [.int no, .int (shS n (.pair o) t).2]) t1 = some (.tup [.int no, .int (shS n (.pair o) t).2]) := upd_same
      have stA := st14.same s1
      refine ⟨.ref pg, rfl, pg, _, 0, _, rfl, rfl, sqT_same s1 hpg, rfl, .ref S, rfl, .ref ra, rfl, ra, _, 1, _, rfl, rfl, sqT_same s1 hT14, rfl, _, _, rfl, rfl, S, 0, _, rfl, stA, by decide, by decide, by omega, by omega, fun no2 H15 hno2 smo2 b15 st15 => ?_⟩
      refine ⟨by show 2 ≤ sizeLine; decide, fun t2 h2 => ?_⟩
      have s2 := same_new (o := .tup [.int (shS n (.pair o) t).1, .int no2]) h2
      have e2 : upd H15 t2 (.tup [.int (shS n (.pair o) t).1, .int no2]) t2 = some (.tup [.int (shS n (.pair o) t).1, .int no2]) := upd_same
      refine ⟨by show 2 ≤ sizeLine; decide, fun p3 h3 => ?_⟩
      have s3 := same_new (o := .lst [.ref t1, .ref t2]) h3
      have stB := (st15.same s2).same s3
      refine ⟨.ref S, rfl, S, 2, rfl, stB, by decide, by decide, fun v H16 v0 v1 b16 st16 => ?_⟩
      have e1' : H16 t1 = some (.tup [.int no, .int (shS n (.pair o) t).2]) := rule_but stB b16 ((s2.trans s3) _ _ (rule_but stA b15 e1))
      have e2' : H16 t2 = some (.tup [.int (shS n (.pair o) t).1, .int no2]) := rule_but stB b16 (s3 _ _ e2)
      have bA : But S H14 H16 := (((But.of s1).trans b15).trans (But.of (s2.trans s3))).trans b16
      obtain ⟨x, ex, hx⟩ := pick2 (a := V.ref t1) (b := V.ref t2) v0 v1
      have fin : ∀ (nv : V) (ns : Int × Int), SeenAt K H16 (.pair o) nv ns → ¬ ShOk n (.pair o) ns → Sm ns.1 → Sm ns.2 → ∃ (nv' : V) (ns : Int × Int), [some (V.ref a), some (.ref S), z2, some (.int t), some (.ref oa), some (.int bad), y6, some (.ref pg), some nv, some (.ref ra), some (.int n), y11] = [some (V.ref a), some (.ref S), z2, some (.int t), some (.ref oa), some (.int bad), y6, some (.ref pg), some nv', some (.ref ra), some (.int n), y11] ∧
          SeenAt K H16 (.pair o) nv' ns ∧ ¬ ShOk n (.pair o) ns ∧ Sm ns.1 ∧ Sm ns.2 ∧ SeenAt K H16 (.pair o) (.ref pg) (shS n (.pair o) t) ∧ StAt K S H16 ∧ Tabs (TT2 P0 P1) H16 ∧ H16 ra = some (.tup (rulT (.pair o))) :=
        fun nv ns h1 h2 h3 h4 => ⟨nv, ns, rfl, h1, h2, h3, h4, hgv14.but st14 bA, st16, tabs_but tb14 bA st14, rule_but st14 bA hR14⟩
      refine ⟨p3, _, v, x, rfl, rfl, SqL.of (b16 _ _ ((st15.same s2).nn h3) upd_same), ex, ?_⟩
      rcases hx with rfl | rfl
      · exact fin (.ref t1) (no, (shS n (.pair o) t).2) ⟨t1, rfl, SqT.of e1'⟩ (fun z => nno z.1) smo.sm ms.2
      · refine fin (.ref t2) ((shS n (.pair o) t).1, no2) ⟨t2, rfl, SqT.of e2'⟩ (fun z => ?_) ms.1 smo2.sm
        have z1 := z.2.1
        have z2 := z.2.2
        have z1 : 0 ≤ no2 := z1
        have z2 : no2 < o := z2
        rcases hno2 with h | h <;> omega
  rintro σ16 H16 ⟨nv, ns, rfl, hnv, nns, smn1, smn2, hgv16, st16, tb16, hR16⟩
  clear st12 st13 st14 tb12 tb13 tb14 hR12 hR13 hR14 hgv14 hgv hno
  -- works
  refine ⟨tb16, fun f1 c1 G1 x1 t1 _ l1 k1 => ⟨by show 1 ≤ sizeLine; decide, fun p hpn => ?_⟩⟩
  have X1 : ExtN G1 (upd G1 p (.lst [.ref f1])) := .of (same_new hpn)
  have T1 := t1.ext (same_new (o := .lst [.ref f1]) hpn)
  refine ⟨.ref p, rfl, .inl ⟨rfl, _, SqL.of upd_same⟩, T1, fun f2 c2 G2 x2 t2 _ l2 k2 => ?_⟩
  have p2 : G2 p = some (.lst [.ref f1]) := lst_ext x2 upd_same
  refine ⟨p, _, .ref f2, rfl, rfl, p2, by show 1 < sizeLine; decide, ?_⟩
  have X2 : ExtN G1 (upd G2 p (.lst [.ref f1, .ref f2])) := extN_put (X1.trans x2) hpn
  have T2 : Tabs (TT2 P0 P1) (upd G2 p (.lst [.ref f1, .ref f2])) := tabs_put t2 p2
  refine ⟨.ref p, rfl, .inl ⟨rfl, _, SqL.of upd_same⟩, T2, fun f3 c3 G3 x3 t3 _ l3 k3 => ?_⟩
  have p3 : G3 p = some (.lst [.ref f1, .ref f2]) := lst_ext x3 upd_same
  refine ⟨p, _, .ref f3, rfl, rfl, p3, by show 2 < sizeLine; decide, ?_⟩
  have X3 : ExtN G1 (upd G3 p (.lst [.ref f1, .ref f2, .ref f3])) := extN_put (X2.trans x3) hpn
  have T3 : Tabs (TT2 P0 P1) (upd G3 p (.lst [.ref f1, .ref f2, .ref f3])) := tabs_put t3 p3
  refine ⟨.ref p, rfl, .inl ⟨rfl, _, SqL.of upd_same⟩, T3, fun f4 c4 G4 x4 t4 _ l4 k4 => ?_⟩
  have p4 : G4 p = some (.lst [.ref f1, .ref f2, .ref f3]) := lst_ext x4 upd_same
  refine ⟨p, _, .ref f4, rfl, rfl, p4, by show 3 < sizeLine; decide, ?_⟩
  have X4 : ExtN G1 (upd G4 p (.lst [.ref f1, .ref f2, .ref f3, .ref f4])) := extN_put (X3.trans x4) hpn
  have T4 : Tabs (TT2 P0 P1) (upd G4 p (.lst [.ref f1, .ref f2, .ref f3, .ref f4])) := tabs_put t4 p4
  refine ⟨.ref p, rfl, .inl ⟨rfl, _, SqL.of upd_same⟩, T4, fun f5 c5 G5 x5 t5 _ l5 k5 => ?_⟩
  have p5 : G5 p = some (.lst [.ref f1, .ref f2, .ref f3, .ref f4]) := lst_ext x5 upd_same
  refine ⟨p, _, .ref f5, rfl, rfl, p5, by show 4 < sizeLine; decide, ?_⟩
  have X5 : ExtN G1 (upd G5 p (.lst [.ref f1, .ref f2, .ref f3, .ref f4, .ref f5])) := extN_put (X4.trans x5) hpn
  have T5 : Tabs (TT2 P0 P1) (upd G5 p (.lst [.ref f1, .ref f2, .ref f3, .ref f4, .ref f5])) := tabs_put t5 p5
  refine ⟨.ref p, rfl, .inl ⟨rfl, _, SqL.of upd_same⟩, T5, fun f6 c6 G6 x6 t6 _ l6 k6 => ?_⟩
  have p6 : G6 p = some (.lst [.ref f1, .ref f2, .ref f3, .ref f4, .ref f5]) := lst_ext x6 upd_same
  refine ⟨p, _, .ref f6, rfl, rfl, p6, by show 5 < sizeLine; decide, ?_⟩
  have X6 : ExtN G1 (upd G6 p (.lst [.ref f1, .ref f2, .ref f3, .ref f4, .ref f5, .ref f6])) := extN_put (X5.trans x6) hpn
  have T6 : Tabs (TT2 P0 P1) (upd G6 p (.lst [.ref f1, .ref f2, .ref f3, .ref f4, .ref f5, .ref f6])) := tabs_put t6 p6
  have M1 := LmAt.ext (⟨l1, k1⟩ : LmAt G1 f1 (lamNF (XL P w K mg base f c A outer s H E) (lamP lam1) (lamS lam1) c1) (lamB lam1)) X6
  have M2 := LmAt.put (o := .lst [.ref f1, .ref f2, .ref f3, .ref f4, .ref f5, .ref f6]) (LmAt.ext (LmAt.put (o := .lst [.ref f1, .ref f2, .ref f3, .ref f4, .ref f5]) (LmAt.ext (LmAt.put (o := .lst [.ref f1, .ref f2, .ref f3, .ref f4]) (LmAt.ext (LmAt.put (o := .lst [.ref f1, .ref f2, .ref f3]) (LmAt.ext (LmAt.put (o := .lst [.ref f1, .ref f2]) (⟨l2, k2⟩ : LmAt G2 f2 (lamNF (XL P w K mg base f c A outer s H E) (lamP lam2) (lamS lam2) c2) (lamB lam2)) p2) x3) p3) x4) p4) x5) p5) x6) p6
  have M3 := LmAt.put (o := .lst [.ref f1, .ref f2, .ref f3, .ref f4, .ref f5, .ref f6]) (LmAt.ext (LmAt.put (o := .lst [.ref f1, .ref f2, .ref f3, .ref f4, .ref f5]) (LmAt.ext (LmAt.put (o := .lst [.ref f1, .ref f2, .ref f3, .ref f4]) (LmAt.ext (LmAt.put (o := .lst [.ref f1, .ref f2, .ref f3]) (⟨l3, k3⟩ : LmAt G3 f3 (lamNF (XL P w K mg base f c A outer s H E) (lamP lam3) (lamS lam3) c3) (lamB lam3)) p3) x4) p4) x5) p5) x6) p6
  have M4 := LmAt.put (o := .lst [.ref f1, .ref f2, .ref f3, .ref f4, .ref f5, .ref f6]) (LmAt.ext (LmAt.put (o := .lst [.ref f1, .ref f2, .ref f3, .ref f4, .ref f5]) (LmAt.ext (LmAt.put (o := .lst [.ref f1, .ref f2, .ref f3, .ref f4]) (⟨l4, k4⟩ : LmAt G4 f4 (lamNF (XL P w K mg base f c A outer s H E) (lamP lam4) (lamS lam4) c4) (lamB lam4)) p4) x5) p5) x6) p6
  have M5 := LmAt.put (o := .lst [.ref f1, .ref f2, .ref f3, .ref f4, .ref f5, .ref f6]) (LmAt.ext (LmAt.put (o := .lst [.ref f1, .ref f2, .ref f3, .ref f4, .ref f5]) (⟨l5, k5⟩ : LmAt G5 f5 (lamNF (XL P w K mg base f c A outer s H E) (lamP lam5) (lamS lam5) c5) (lamB lam5)) p5) x6) p6
  have M6 := LmAt.put (o := .lst [.ref f1, .ref f2, .ref f3, .ref f4, .ref f5, .ref f6]) (⟨l6, k6⟩ : LmAt G6 f6 (lamNF (XL P w K mg base f c A outer s H E) (lamP lam6) (lamS lam6) c6) (lamB lam6)) p6
  have x16 := x1.trans X6
  have stC := st16.ext x16
  have hRC := rule_ext x16 hR16
  have hnvC := hnv.ext x16
  have hgvC := hgv16.ext x16
  have hp : (upd G6 p (.lst [.ref f1, .ref f2, .ref f3, .ref f4, .ref f5, .ref f6])) p = some (.lst [.ref f1, .ref f2, .ref f3, .ref f4, .ref f5, .ref f6]) := upd_same
  refine ⟨.ref p, rfl, p, rfl, ⟨_, SqL.of hp⟩, fun D hD => ?_⟩
  refine lc_list (K := K) (a := p) (xs := [.ref f1, .ref f2, .ref f3, .ref f4, .ref f5, .ref f6]) (fun i H' => Same (upd G6 p (.lst [.ref f1, .ref f2, .ref f3, .ref f4, .ref f5, .ref f6])) H' ∧ H' D = some (.lst ((kws.take i).map V.str))) ⟨same_new hD, upd_same⟩ (fun i H' _ h => SqL.of (h.1 _ _ hp)) (fun i x H' hx hP => ?_) (fun H' hP => ?_)
  · obtain ⟨sm, eD⟩ := hP
    have six : i = 0 ∨ i = 1 ∨ i = 2 ∨ i = 3 ∨ i = 4 ∨ i = 5 := by
      have := (List.getElem?_eq_some_iff.mp hx).1
      simp only [List.length_cons, List.length_nil] at this
      omega
    have hR' := sm _ _ hRC
    have hnv' := hnvC.same sm
    have hgv' := hgvC.same sm
    rcases six with rfl | rfl | rfl | rfl | rfl | rfl
    · obtain rfl : V.ref f1 = x := Option.some.inj hx
      have N := M1.same sm
      refine ⟨rfl, .ref f1, rfl, f1, _, lamB lam1, fr1, _, _, rfl, N.1, N.2, (ok_lam1 (C := C) (CW := CW) (CR := CR) (CS := CS) (CN := CN) (CG := CG) (i := 0) DGap (k := 8) (by decide) rfl rfl), ⟨[7, 8, 9, 10], fun ok => Caps.made ok (ndef_free nd1) (ndef_fr nd1) rfl, rfl⟩, fun E hE => ?_⟩
      refine ⟨N.1, N.2, gv, nv, .ref ra, .int n, rfl, n, ra, nv, gv, .int 0, rfl, RulIn.ok hn ok hR' ⟨ns, shS n r t, hnv', hgv', smn1, smn2, ms.1, ms.2, fun _ H1 s1 => ?_, fun z => absurd z nns, fun z => absurd z nns⟩⟩
      exact hE CS 2 H1 kdS fun H'' s2 => ⟨_, (s1.trans s2) _ _ eD, by show 0 < sizeLine; decide, same_put (sm.trans (s1.trans s2)) hD, upd_same⟩
    · obtain rfl : V.ref f2 = x := Option.some.inj hx
      have N := M2.same sm
      refine ⟨rfl, .ref f2, rfl, f2, _, lamB lam2, fr2, _, _, rfl, N.1, N.2, (ok_lam2 (C := C) (CW := CW) (CR := CR) (CS := CS) (CN := CN) (CG := CG) (i := 0) DGap (k := 8) (by decide) rfl rfl), ⟨[7, 8, 9, 10], fun ok => Caps.made ok (ndef_free nd2) (ndef_fr nd2) rfl, rfl⟩, fun E hE => ?_⟩
      refine ⟨N.1, N.2, gv, nv, .ref ra, .int n, rfl, n, ra, gv, nv, .int 0, rfl, RulIn.ok hn ok hR' ⟨shS n r t, ns, hgv', hnv', ms.1, ms.2, smn1, smn2, fun z => absurd sh z, fun _ _ H1 s1 => ?_, fun _ z => absurd z nns⟩⟩
      exact hE CS 2 H1 kdS fun H'' s2 => ⟨_, (s1.trans s2) _ _ eD, by show 1 < sizeLine; decide, same_put (sm.trans (s1.trans s2)) hD, upd_same⟩
    · obtain rfl : V.ref f3 = x := Option.some.inj hx
      have N := M3.same sm
      refine ⟨rfl, .ref f3, rfl, f3, _, lamB lam3, fr3, _, _, rfl, N.1, N.2, (ok_lam3 (C := C) (CW := CW) (CR := CR) (CS := CS) (CN := CN) (CG := CG) DI (k := 8) (by decide) DLook (by decide) rfl rfl), ⟨[8, 9, 10], fun ok => Caps.made ok (ndef_free nd3) (ndef_fr nd3) rfl, rfl⟩, fun E hE => ?_⟩
      refine ⟨N.1, N.2, nv, n, ra, r, ns, rfl, hn, ok, hR', hnv', smn1, smn2, nns, fun H1 s1 => ?_⟩
      exact hE CS 2 H1 kdS fun H'' s2 => ⟨_, (s1.trans s2) _ _ eD, by show 2 < sizeLine; decide, same_put (sm.trans (s1.trans s2)) hD, upd_same⟩
    · obtain rfl : V.ref f4 = x := Option.some.inj hx
      have N := M4.same sm
      refine ⟨rfl, .ref f4, rfl, f4, _, lamB lam4, fr4, _, _, rfl, N.1, N.2, (ok_lam4 (C := C) (CW := CW) (CR := CR) (CS := CS) (CN := CN) (CG := CG) (i := 0) DJudged (k := 8) (by decide) rfl rfl), ⟨[9, 10], fun ok => Caps.made ok (ndef_free nd4) (ndef_fr nd4) rfl, rfl⟩, fun E hE => ?_⟩
      refine ⟨N.1, N.2, n, ra, r, rfl, hn, ok, hR', fun H1 s1 => ?_⟩
      exact hE CG 3 H1 kdG fun H'' s2 => ⟨_, (s1.trans s2) _ _ eD, by show 3 < sizeLine; decide, same_put (sm.trans (s1.trans s2)) hD, upd_same⟩
    · obtain rfl : V.ref f5 = x := Option.some.inj hx
      have N := M5.same sm
      refine ⟨rfl, .ref f5, rfl, f5, _, lamB lam5, fr5, _, _, rfl, N.1, N.2, (ok_lam5 (C := C) (CW := CW) (CR := CR) (CS := CS) (CN := CN) (CG := CG) (i := 0) DFirst (k := 8) (by decide) rfl rfl), ⟨[9, 10], fun ok => Caps.made ok (ndef_free nd5) (ndef_fr nd5) rfl, rfl⟩, fun E hE => ?_⟩
      refine ⟨N.1, N.2, n, ra, r, rfl, hn, ok, hR', fun H1 s1 => ?_⟩
      exact hE CG 3 H1 kdG fun H'' s2 => ⟨_, (s1.trans s2) _ _ eD, by show 4 < sizeLine; decide, same_put (sm.trans (s1.trans s2)) hD, upd_same⟩
    · obtain rfl : V.ref f6 = x := Option.some.inj hx
      have N := M6.same sm
      refine ⟨rfl, .ref f6, rfl, f6, _, lamB lam6, fr6, _, _, rfl, N.1, N.2, (ok_lam6 (C := C) (CW := CW) (CR := CR) (CS := CS) (CN := CN) (CG := CG) (i := 0) DFirst (k := 8) (by decide) rfl rfl), ⟨[9, 10], fun ok => Caps.made ok (ndef_free nd6) (ndef_fr nd6) rfl, rfl⟩, fun E hE => ?_⟩
      refine ⟨N.1, N.2, n, ra, r, rfl, hn, ok, hR', fun H1 s1 => ?_⟩
      exact hE CG 3 H1 kdG fun H'' s2 => ⟨_, (s1.trans s2) _ _ eD, by show 5 < sizeLine; decide, same_put (sm.trans (s1.trans s2)) hD, upd_same⟩
  · obtain ⟨sm, eD⟩ := hP
    refine ⟨by show 1 ≤ sizeLine; decide, fun q1 hq1 => ?_⟩
    have s1 := same_new (o := .lst [.str "BadSeen"]) hq1
    refine ⟨q1, _, _, rfl, rfl, upd_same, by decide, by decide, by show 1 * 3 ≤ sizeLine; decide, fun q2 hq2 => ?_⟩
    have s2 := same_new (o := .lst [.str "BadSeen", .str "BadSeen", .str "BadSeen"]) hq2
    refine ⟨by show 1 ≤ sizeLine; decide, fun q3 hq3 => ?_⟩
    have s3 := same_new (o := .lst [.str "BadGaps"]) hq3
    refine ⟨q3, _, _, rfl, rfl, upd_same, by decide, by decide, by show 1 * 3 ≤ sizeLine; decide, fun q4 hq4 => ?_⟩
    have s4 := same_new (o := .lst [.str "BadGaps", .str "BadGaps", .str "BadGaps"]) hq4
    refine ⟨q2, q4, _, _, rfl, rfl, (s3.trans s4) q2 _ upd_same, upd_same, by show 3 + 3 ≤ sizeLine; decide, fun q5 hq5 => ?_⟩
    have s5 := same_new (o := .lst [.str "BadSeen", .str "BadSeen", .str "BadSeen", .str "BadGaps", .str "BadGaps", .str "BadGaps"]) hq5
    have sA := (((s1.trans s2).trans s3).trans s4).trans s5
    refine ⟨.list [.str "BadSeen", .str "BadSeen", .str "BadSeen", .str "BadGaps", .str "BadGaps", .str "BadGaps"], .list [.str "BadSeen", .str "BadSeen", .str "BadSeen", .str "BadGaps", .str "BadGaps", .str "BadGaps"], .lst (SqL.of (sA _ _ eD)) (.cons (.str _) (.cons (.str _) (.cons (.str _) (.cons (.str _) (.cons (.str _) (.cons (.str _) .nil)))))), .lst (SqL.of upd_same) (.cons (.str _) (.cons (.str _) (.cons (.str _) (.cons (.str _) (.cons (.str _) (.cons (.str _) .nil)))))), (by decide +kernel), (by decide +kernel), _, rfl, ?_⟩
    rw [show PyData.eqv (.list [.str "BadSeen", .str "BadSeen", .str "BadSeen", .str "BadGaps", .str "BadGaps", .str "BadGaps"]) (.list [.str "BadSeen", .str "BadSeen", .str "BadSeen", .str "BadGaps", .str "BadGaps", .str "BadGaps"]) = true by decide +kernel]
    exact iteF ⟨⟨_, _, _, _, _, _, _, _, _, _, rfl⟩, (stC.same sm).same sA, (T6.ext sm).ext sA⟩
end

end K2

namespace K2
open PySem PySem.Spec PyProof.Rows L2 LamX NdefX Lx
theorem all_mk {w : World} {K : PySem.W.Frag} {h : Heap} {mg : Str → Option Value} {fa cL P0 E0 E1 E2 E3 E4 E5 E6 E7 E8 : Addr} {ts : List Addr} {lv : List (Str × PySem.W.WData)} {q : Program} (X : K.In h) (G : h.Ns mainGlobals mg) (hfa : mg "law" = some (.ref fa)) (tabs : ∀ P ∈ ts, h.get? P = some (PySem.W.tabObj #[])) (XL : PySem.W.XL q lv mg h)
    {ec : Value} {dc : Option Addr} {vc : Array Value} {slc : Array (Option Value)}
    {f0 : Addr} {od0 an0 : Option Addr} {sl0 : Array (Option Value)} {oc0 kV0 dc0 pm0 cd0 ct0 : Value}
    {f1 : Addr} {od1 an1 : Option Addr} {sl1 : Array (Option Value)} {oc1 kV1 dc1 pm1 cd1 ct1 : Value}
    {f2 : Addr} {od2 an2 : Option Addr} {sl2 : Array (Option Value)} {oc2 kV2 dc2 pm2 cd2 ct2 : Value}
    {f3 : Addr} {od3 an3 : Option Addr} {sl3 : Array (Option Value)} {oc3 kV3 dc3 pm3 cd3 ct3 : Value}
    {f4 : Addr} {od4 an4 : Option Addr} {sl4 : Array (Option Value)} {oc4 kV4 dc4 pm4 cd4 ct4 : Value}
    {f5 : Addr} {od5 an5 : Option Addr} {sl5 : Array (Option Value)} {oc5 kV5 dc5 pm5 cd5 ct5 : Value}
    {f6 : Addr} {od6 an6 : Option Addr} {sl6 : Array (Option Value)} {oc6 kV6 dc6 pm6 cd6 ct6 : Value}
    {f7 : Addr} {od7 an7 : Option Addr} {sl7 : Array (Option Value)} {oc7 kV7 dc7 pm7 cd7 ct7 : Value}
    {f8 : Addr} {od8 an8 : Option Addr} {sl8 : Array (Option Value)} {oc8 kV8 dc8 pm8 cd8 ct8 : Value}
    {f9 : Addr} {od9 an9 : Option Addr} {sl9 : Array (Option Value)} {oc9 kV9 dc9 pm9 cd9 ct9 : Value}
    {f10 : Addr} {od10 an10 : Option Addr} {sl10 : Array (Option Value)} {oc10 kV10 dc10 pm10 cd10 ct10 : Value}
    {f11 : Addr} {od11 an11 : Option Addr} {sl11 : Array (Option Value)} {oc11 kV11 dc11 pm11 cd11 ct11 : Value}
    {f12 : Addr} {od12 an12 : Option Addr} {sl12 : Array (Option Value)} {oc12 kV12 dc12 pm12 cd12 ct12 : Value}
    {f13 : Addr} {od13 an13 : Option Addr} {sl13 : Array (Option Value)} {oc13 kV13 dc13 pm13 cd13 ct13 : Value}
    {f14 : Addr} {od14 an14 : Option Addr} {sl14 : Array (Option Value)} {oc14 kV14 dc14 pm14 cd14 ct14 : Value}
    {f15 : Addr} {od15 an15 : Option Addr} {sl15 : Array (Option Value)} {oc15 kV15 dc15 pm15 cd15 ct15 : Value}
    {f16 : Addr} {od16 an16 : Option Addr} {sl16 : Array (Option Value)} {oc16 kV16 dc16 pm16 cd16 ct16 : Value}
    {f17 : Addr} {od17 an17 : Option Addr} {sl17 : Array (Option Value)} {oc17 kV17 dc17 pm17 cd17 ct17 : Value}
    {f18 : Addr} {od18 an18 : Option Addr} {sl18 : Array (Option Value)} {oc18 kV18 dc18 pm18 cd18 ct18 : Value}
    {f19 : Addr} {od19 an19 : Option Addr} {sl19 : Array (Option Value)} {oc19 kV19 dc19 pm19 cd19 ct19 : Value}
    {f20 : Addr} {od20 an20 : Option Addr} {sl20 : Array (Option Value)} {oc20 kV20 dc20 pm20 cd20 ct20 : Value}
    {f21 : Addr} {od21 an21 : Option Addr} {sl21 : Array (Option Value)} {oc21 kV21 dc21 pm21 cd21 ct21 : Value}
    {f22 : Addr} {od22 an22 : Option Addr} {sl22 : Array (Option Value)} {oc22 kV22 dc22 pm22 cd22 ct22 : Value}
    {f23 : Addr} {od23 an23 : Option Addr} {sl23 : Array (Option Value)} {oc23 kV23 dc23 pm23 cd23 ct23 : Value}
    {f24 : Addr} {od24 an24 : Option Addr} {sl24 : Array (Option Value)} {oc24 kV24 dc24 pm24 cd24 ct24 : Value}
    {f25 : Addr} {od25 an25 : Option Addr} {sl25 : Array (Option Value)} {oc25 kV25 dc25 pm25 cd25 ct25 : Value}
    {f26 : Addr} {od26 an26 : Option Addr} {sl26 : Array (Option Value)} {oc26 kV26 dc26 pm26 cd26 ct26 : Value}
    {f27 : Addr} {od27 an27 : Option Addr} {sl27 : Array (Option Value)} {oc27 kV27 dc27 pm27 cd27 ct27 : Value}
    {f28 : Addr} {od28 an28 : Option Addr} {sl28 : Array (Option Value)} {oc28 kV28 dc28 pm28 ct28 : Value}
    {f29 : Addr} {od29 an29 : Option Addr} {sl29 : Array (Option Value)} {oc29 kV29 dc29 pm29 ct29 : Value}
    {cW P1 : Addr} {ec1 : Value} {dc_1 : Option Addr} {vc1 : Array Value} {slc1 : Array (Option Value)}
    {CRd : Addr}
    {fRI : Addr} {odRI anRI : Option Addr} {slRI : Array (Option Value)} {ocRI kVRI dcRI pmRI cdRI ctRI : Value}
    {fRL : Addr} {odRL anRL : Option Addr} {slRL : Array (Option Value)} {ocRL kVRL dcRL pmRL cdRL ctRL : Value}
    {TRL : Addr} {toRL : Value} {tdRL : Option Addr} {tnRL : Nat} {tsRL : Array (Option Value)}
    {tk0 : Tok}
    (a0 : PySem.W.nsIn K mainGlobals "is_wheel" = some (some (.ref f0))) (l0 : K.lookup f0 = some ⟨oc0, od0, .func (PySem.W.fnOf "is_wheel" "is_wheel" (defArgs sIsWheel) (defBody sIsWheel) (defScope sIsWheel) .none kV0 dc0 pm0 an0 cd0 ct0), sl0⟩) (c0 : PySem.W.codeIn K cd0 "is_wheel" = true) (k0 : PySem.W.keepIn K (.ref f0) = true)
    (a1 : PySem.W.nsIn K mainGlobals "check_wheel" = some (some (.ref f1))) (l1 : K.lookup f1 = some ⟨oc1, od1, .func (PySem.W.fnOf "check_wheel" "check_wheel" (defArgs sCheckWheel) (defBody sCheckWheel) (defScope sCheckWheel) .none kV1 dc1 pm1 an1 cd1 ct1), sl1⟩) (c1 : PySem.W.codeIn K cd1 "check_wheel" = true) (k1 : PySem.W.keepIn K (.ref f1) = true)
    (a2 : PySem.W.nsIn K mainGlobals "check_seen" = some (some (.ref f2))) (l2 : K.lookup f2 = some ⟨oc2, od2, .func (PySem.W.fnOf "check_seen" "check_seen" (defArgs sCheckSeen) (defBody sCheckSeen) (defScope sCheckSeen) .none kV2 dc2 pm2 an2 cd2 ct2), sl2⟩) (c2 : PySem.W.codeIn K cd2 "check_seen" = true) (k2 : PySem.W.keepIn K (.ref f2) = true)
    (a3 : PySem.W.nsIn K mainGlobals "is_number" = some (some (.ref f3))) (l3 : K.lookup f3 = some ⟨oc3, od3, .func (PySem.W.fnOf "is_number" "is_number" (defArgs sIsNumber) (defBody sIsNumber) (defScope sIsNumber) .none kV3 dc3 pm3 an3 cd3 ct3), sl3⟩) (c3 : PySem.W.codeIn K cd3 "is_number" = true) (k3 : PySem.W.keepIn K (.ref f3) = true)
    (a4 : PySem.W.nsIn K mainGlobals "is_rule" = some (some (.ref f4))) (l4 : K.lookup f4 = some ⟨oc4, od4, .func (PySem.W.fnOf "is_rule" "is_rule" (defArgs sIsRule) (defBody sIsRule) (defScope sIsRule) .none kV4 dc4 pm4 an4 cd4 ct4), sl4⟩) (c4 : PySem.W.codeIn K cd4 "is_rule" = true) (k4 : PySem.W.keepIn K (.ref f4) = true)
    (a5 : PySem.W.nsIn K mainGlobals "check_rule" = some (some (.ref f5))) (l5 : K.lookup f5 = some ⟨oc5, od5, .func (PySem.W.fnOf "check_rule" "check_rule" (defArgs sCheckRule) (defBody sCheckRule) (defScope sCheckRule) .none kV5 dc5 pm5 an5 cd5 ct5), sl5⟩) (c5 : PySem.W.codeIn K cd5 "check_rule" = true) (k5 : PySem.W.keepIn K (.ref f5) = true)
    (a6 : PySem.W.nsIn K mainGlobals "check_shown" = some (some (.ref f6))) (l6 : K.lookup f6 = some ⟨oc6, od6, .func (PySem.W.fnOf "check_shown" "check_shown" (defArgs sCheckShown) (defBody sCheckShown) (defScope sCheckShown) .none kV6 dc6 pm6 an6 cd6 ct6), sl6⟩) (c6 : PySem.W.codeIn K cd6 "check_shown" = true) (k6 : PySem.W.keepIn K (.ref f6) = true)
    (a7 : PySem.W.nsIn K mainGlobals "shown" = some (some (.ref f7))) (l7 : K.lookup f7 = some ⟨oc7, od7, .func (PySem.W.fnOf "shown" "shown" (defArgs sShown) (defBody sShown) (defScope sShown) .none kV7 dc7 pm7 an7 cd7 ct7), sl7⟩) (c7 : PySem.W.codeIn K cd7 "shown" = true) (k7 : PySem.W.keepIn K (.ref f7) = true)
    (a8 : PySem.W.nsIn K mainGlobals "_least_from" = some (some (.ref f8))) (l8 : K.lookup f8 = some ⟨oc8, od8, .func (PySem.W.fnOf "_least_from" "_least_from" (defArgs sLeast) (defBody sLeast) (defScope sLeast) .none kV8 dc8 pm8 an8 cd8 ct8), sl8⟩) (c8 : PySem.W.codeIn K cd8 "_least_from" = true) (k8 : PySem.W.keepIn K (.ref f8) = true)
    (a9 : PySem.W.nsIn K mainGlobals "_gap_about" = some (some (.ref f9))) (l9 : K.lookup f9 = some ⟨oc9, od9, .func (PySem.W.fnOf "_gap_about" "_gap_about" (defArgs sGapAbout) (defBody sGapAbout) (defScope sGapAbout) .none kV9 dc9 pm9 an9 cd9 ct9), sl9⟩) (c9 : PySem.W.codeIn K cd9 "_gap_about" = true) (k9 : PySem.W.keepIn K (.ref f9) = true)
    (a10 : PySem.W.nsIn K mainGlobals "_common_divisor" = some (some (.ref f10))) (l10 : K.lookup f10 = some ⟨oc10, od10, .func (PySem.W.fnOf "_common_divisor" "_common_divisor" (defArgs sCommon) (defBody sCommon) (defScope sCommon) .none kV10 dc10 pm10 an10 cd10 ct10), sl10⟩) (c10 : PySem.W.codeIn K cd10 "_common_divisor" = true) (k10 : PySem.W.keepIn K (.ref f10) = true)
    (a11 : PySem.W.nsIn K mainGlobals "_gap_of_pair" = some (some (.ref f11))) (l11 : K.lookup f11 = some ⟨oc11, od11, .func (PySem.W.fnOf "_gap_of_pair" "_gap_of_pair" (defArgs sGapPair) (defBody sGapPair) (defScope sGapPair) .none kV11 dc11 pm11 an11 cd11 ct11), sl11⟩) (c11 : PySem.W.codeIn K cd11 "_gap_of_pair" = true) (k11 : PySem.W.keepIn K (.ref f11) = true)
    (a12 : PySem.W.nsIn K mainGlobals "bound" = some (some (.ref f12))) (l12 : K.lookup f12 = some ⟨oc12, od12, .func (PySem.W.fnOf "bound" "bound" (defArgs sBound) (defBody sBound) (defScope sBound) .none kV12 dc12 pm12 an12 cd12 ct12), sl12⟩) (c12 : PySem.W.codeIn K cd12 "bound" = true) (k12 : PySem.W.keepIn K (.ref f12) = true)
    (a13 : PySem.W.nsIn K mainGlobals "gap" = some (some (.ref f13))) (l13 : K.lookup f13 = some ⟨oc13, od13, .func (PySem.W.fnOf "gap" "gap" (defArgs sGap) (defBody sGap) (defScope sGap) .none kV13 dc13 pm13 an13 cd13 ct13), sl13⟩) (c13 : PySem.W.codeIn K cd13 "gap" = true) (k13 : PySem.W.keepIn K (.ref f13) = true)
    (a14 : PySem.W.nsIn K mainGlobals "judged" = some (some (.ref f14))) (l14 : K.lookup f14 = some ⟨oc14, od14, .func (PySem.W.fnOf "judged" "judged" (defArgs sJudged) (defBody sJudged) (defScope sJudged) .none kV14 dc14 pm14 an14 cd14 ct14), sl14⟩) (c14 : PySem.W.codeIn K cd14 "judged" = true) (k14 : PySem.W.keepIn K (.ref f14) = true)
    (a15 : PySem.W.nsIn K mainGlobals "_check_counts" = some (some (.ref f15))) (l15 : K.lookup f15 = some ⟨oc15, od15, .func (PySem.W.fnOf "_check_counts" "_check_counts" (defArgs sCheckCounts) (defBody sCheckCounts) (defScope sCheckCounts) .none kV15 dc15 pm15 an15 cd15 ct15), sl15⟩) (c15 : PySem.W.codeIn K cd15 "_check_counts" = true) (k15 : PySem.W.keepIn K (.ref f15) = true)
    (a16 : PySem.W.nsIn K mainGlobals "_tells" = some (some (.ref f16))) (l16 : K.lookup f16 = some ⟨oc16, od16, .func (PySem.W.fnOf "_tells" "_tells" (defArgs sTells) (defBody sTells) (defScope sTells) .none kV16 dc16 pm16 an16 cd16 ct16), sl16⟩) (c16 : PySem.W.codeIn K cd16 "_tells" = true) (k16 : PySem.W.keepIn K (.ref f16) = true)
    (a17 : PySem.W.nsIn K mainGlobals "first_wrong" = some (some (.ref f17))) (l17 : K.lookup f17 = some ⟨oc17, od17, .func (PySem.W.fnOf "first_wrong" "first_wrong" (defArgs sFirstWrong) (defBody sFirstWrong) (defScope sFirstWrong) .none kV17 dc17 pm17 an17 cd17 ct17), sl17⟩) (c17 : PySem.W.codeIn K cd17 "first_wrong" = true) (k17 : PySem.W.keepIn K (.ref f17) = true)
    (a18 : PySem.W.nsIn K mainGlobals "_law_start" = some (some (.ref f18))) (l18 : K.lookup f18 = some ⟨oc18, od18, .func (PySem.W.fnOf "_law_start" "_law_start" (defArgs sStart) (defBody sStart) (defScope sStart) .none kV18 dc18 pm18 an18 cd18 ct18), sl18⟩) (c18 : PySem.W.codeIn K cd18 "_law_start" = true) (k18 : PySem.W.keepIn K (.ref f18) = true)
    (a19 : PySem.W.nsIn K mainGlobals "_law_drawn" = some (some (.ref f19))) (l19 : K.lookup f19 = some ⟨oc19, od19, .func (PySem.W.fnOf "_law_drawn" "_law_drawn" (defArgs sDrawn) (defBody sDrawn) (defScope sDrawn) .none kV19 dc19 pm19 an19 cd19 ct19), sl19⟩) (c19 : PySem.W.codeIn K cd19 "_law_drawn" = true) (k19 : PySem.W.keepIn K (.ref f19) = true)
    (a20 : PySem.W.nsIn K mainGlobals "_law_same" = some (some (.ref f20))) (l20 : K.lookup f20 = some ⟨oc20, od20, .func (PySem.W.fnOf "_law_same" "_law_same" (defArgs sSame) (defBody sSame) (defScope sSame) .none kV20 dc20 pm20 an20 cd20 ct20), sl20⟩) (c20 : PySem.W.codeIn K cd20 "_law_same" = true) (k20 : PySem.W.keepIn K (.ref f20) = true)
    (a21 : PySem.W.nsIn K mainGlobals "_law_kind" = some (some (.ref f21))) (l21 : K.lookup f21 = some ⟨oc21, od21, .func (PySem.W.fnOf "_law_kind" "_law_kind" (defArgs sKind) (defBody sKind) (defScope sKind) .none kV21 dc21 pm21 an21 cd21 ct21), sl21⟩) (c21 : PySem.W.codeIn K cd21 "_law_kind" = true) (k21 : PySem.W.keepIn K (.ref f21) = true)
    (a22 : PySem.W.nsIn K mainGlobals "_law_far" = some (some (.ref f22))) (l22 : K.lookup f22 = some ⟨oc22, od22, .func (PySem.W.fnOf "_law_far" "_law_far" (defArgs sFar) (defBody sFar) (defScope sFar) .none kV22 dc22 pm22 an22 cd22 ct22), sl22⟩) (c22 : PySem.W.codeIn K cd22 "_law_far" = true) (k22 : PySem.W.keepIn K (.ref f22) = true)
    (a23 : PySem.W.nsIn K mainGlobals "_law_wheel" = some (some (.ref f23))) (l23 : K.lookup f23 = some ⟨oc23, od23, .func (PySem.W.fnOf "_law_wheel" "_law_wheel" (defArgs sWheel) (defBody sWheel) (defScope sWheel) .none kV23 dc23 pm23 an23 cd23 ct23), sl23⟩) (c23 : PySem.W.codeIn K cd23 "_law_wheel" = true) (k23 : PySem.W.keepIn K (.ref f23) = true)
    (a24 : PySem.W.nsIn K mainGlobals "_law_rule" = some (some (.ref f24))) (l24 : K.lookup f24 = some ⟨oc24, od24, .func (PySem.W.fnOf "_law_rule" "_law_rule" (defArgs sRule) (defBody sRule) (defScope sRule) .none kV24 dc24 pm24 an24 cd24 ct24), sl24⟩) (c24 : PySem.W.codeIn K cd24 "_law_rule" = true) (k24 : PySem.W.keepIn K (.ref f24) = true)
    (a25 : PySem.W.nsIn K mainGlobals "_law_time" = some (some (.ref f25))) (l25 : K.lookup f25 = some ⟨oc25, od25, .func (PySem.W.fnOf "_law_time" "_law_time" (defArgs sTime) (defBody sTime) (defScope sTime) .none kV25 dc25 pm25 an25 cd25 ct25), sl25⟩) (c25 : PySem.W.codeIn K cd25 "_law_time" = true) (k25 : PySem.W.keepIn K (.ref f25) = true)
    (a26 : PySem.W.nsIn K mainGlobals "_law_shown" = some (some (.ref f26))) (l26 : K.lookup f26 = some ⟨oc26, od26, .func (PySem.W.fnOf "_law_shown" "_law_shown" (defArgs sLShown) (defBody sLShown) (defScope sLShown) .none kV26 dc26 pm26 an26 cd26 ct26), sl26⟩) (c26 : PySem.W.codeIn K cd26 "_law_shown" = true) (k26 : PySem.W.keepIn K (.ref f26) = true)
    (a27 : PySem.W.nsIn K mainGlobals "_law_odd" = some (some (.ref f27))) (l27 : K.lookup f27 = some ⟨oc27, od27, .func (PySem.W.fnOf "_law_odd" "_law_odd" (defArgs sOdd) (defBody sOdd) (defScope sOdd) .none kV27 dc27 pm27 an27 cd27 ct27), sl27⟩) (c27 : PySem.W.codeIn K cd27 "_law_odd" = true) (k27 : PySem.W.keepIn K (.ref f27) = true)
    (a28 : PySem.W.nsIn K mainGlobals "_law_works" = some (some (.ref f28))) (l28 : K.lookup f28 = some ⟨oc28, od28, .func (PySem.W.fnOf "_law_works" "_law_works" (defArgs sWorks) (defBody sWorks) (defScope sWorks) .none kV28 dc28 pm28 an28 (.ref cW) ct28), sl28⟩) (c28 : PySem.W.codeIn K (.ref cW) "_law_works" = true) (k28 : PySem.W.keepIn K (.ref f28) = true)
    (a29 : PySem.W.nsIn K mainGlobals "law" = some (some (.ref f29))) (l29 : K.lookup f29 = some ⟨oc29, od29, .func (PySem.W.fnOf "law" "law" (defArgs sLaw) (defBody sLaw) (defScope sLaw) .none kV29 dc29 pm29 an29 (.ref cL) ct29), sl29⟩) (c29 : PySem.W.codeIn K (.ref cL) "law" = true) (k29 : PySem.W.keepIn K (.ref f29) = true)
    (lc : K.lookup cL = some ⟨ec, dc, .fields vc, slc⟩) (v11 : vc[11]? = some (.ref P0)) (hh : PySem.W.codeHdIn K cL P0 = true) (nP : K.lookup P0 = none) (pm : P0 ∈ ts)
    (lc1 : K.lookup cW = some ⟨ec1, dc_1, .fields vc1, slc1⟩) (v111 : vc1[11]? = some (.ref P1)) (hh1 : PySem.W.codeHdIn K cW P1 = true) (nP1 : K.lookup P1 = none) (pm1 : P1 ∈ ts)
    (np01 : P0 ≠ P1)
    (e0 : PySem.W.nsIn K mainGlobals "WrapError" = some (some (.ref E0)))
    (e1 : PySem.W.nsIn K mainGlobals "BadWheel" = some (some (.ref E1)))
    (e2 : PySem.W.nsIn K mainGlobals "BadRule" = some (some (.ref E2)))
    (e3 : PySem.W.nsIn K mainGlobals "BadSeen" = some (some (.ref E3)))
    (e4 : PySem.W.nsIn K mainGlobals "BadGaps" = some (some (.ref E4)))
    (e5 : PySem.W.nsIn K mainGlobals "BadSpan" = some (some (.ref E5)))
    (e6 : PySem.W.nsIn K mainGlobals "BadLong" = some (some (.ref E6)))
    (e7 : PySem.W.nsIn K mainGlobals "NoGap" = some (some (.ref E7)))
    (e8 : PySem.W.nsIn K mainGlobals "NoSpan" = some (some (.ref E8)))
    (sE : PySem.W.subIn K (.ref E0) (.type "BaseException") = some true) (dE : PySem.W.hasDictIn K E0 = true) (tE : PySem.W.typeIn K (.ref E0) = some (.type "type"))
    (i1 : PySem.W.isClsIn K E1 = true) (t1 : PySem.W.typeIn K (.ref E1) = some (.type "type"))
    (i2 : PySem.W.isClsIn K E2 = true) (t2 : PySem.W.typeIn K (.ref E2) = some (.type "type"))
    (i3 : PySem.W.isClsIn K E3 = true) (t3 : PySem.W.typeIn K (.ref E3) = some (.type "type"))
    (i4 : PySem.W.isClsIn K E4 = true) (t4 : PySem.W.typeIn K (.ref E4) = some (.type "type"))
    (i5 : PySem.W.isClsIn K E5 = true) (t5 : PySem.W.typeIn K (.ref E5) = some (.type "type"))
    (i6 : PySem.W.isClsIn K E6 = true) (t6 : PySem.W.typeIn K (.ref E6) = some (.type "type"))
    (i7 : PySem.W.isClsIn K E7 = true) (t7 : PySem.W.typeIn K (.ref E7) = some (.type "type"))
    (i8 : PySem.W.isClsIn K E8 = true) (t8 : PySem.W.typeIn K (.ref E8) = some (.type "type"))
    (sn : PySem.W.specialIn K (.builtin "object.__class__") "__get__" = some (some (.builtin "getset_descriptor.__get__"))) (st : PySem.W.takesIn K (.builtin "object.__class__") = some true)
    (x1g : PySem.W.findIn K (.ref E1) "__getattribute__" = some (some (.builtin "BaseException.__getattribute__"))) (x1k : PySem.W.findIn K (.ref E1) "__getattr__" = some none) (x1s : PySem.W.subIn K (.ref E1) (.type "BaseException") = some true) (x1d : PySem.W.hasDictIn K E1 = true) (x1a : PySem.W.findIn K (.ref E1) "__class__" = some (some (.builtin "object.__class__"))) (x1m : PySem.W.mroIn K E1 (.type "object") = some true) (x1v : PySem.W.subIn K (.ref E1) (.type "ValueError") = some true) (x1w : PySem.W.subIn K (.ref E1) (.ref E0) = some true) (x1e : PySem.W.excIn K E1 [.type "ValueError", .type "Exception", .type "BaseException", .type "object"] "ValueError.__new__" = true) (x1p : PySem.W.keepIn K (.ref E1) = true)
    (y11 : PySem.W.subIn K (.ref E1) (.ref E1) = some true)
    (y12 : PySem.W.subIn K (.ref E1) (.ref E2) = some false)
    (n12 : E1 ≠ E2)
    (y13 : PySem.W.subIn K (.ref E1) (.ref E3) = some false)
    (n13 : E1 ≠ E3)
    (y14 : PySem.W.subIn K (.ref E1) (.ref E4) = some false)
    (n14 : E1 ≠ E4)
    (y15 : PySem.W.subIn K (.ref E1) (.ref E5) = some false)
    (n15 : E1 ≠ E5)
    (y16 : PySem.W.subIn K (.ref E1) (.ref E6) = some false)
    (n16 : E1 ≠ E6)
    (y17 : PySem.W.subIn K (.ref E1) (.ref E7) = some false)
    (n17 : E1 ≠ E7)
    (y18 : PySem.W.subIn K (.ref E1) (.ref E8) = some false)
    (n18 : E1 ≠ E8)
    (x2g : PySem.W.findIn K (.ref E2) "__getattribute__" = some (some (.builtin "BaseException.__getattribute__"))) (x2k : PySem.W.findIn K (.ref E2) "__getattr__" = some none) (x2s : PySem.W.subIn K (.ref E2) (.type "BaseException") = some true) (x2d : PySem.W.hasDictIn K E2 = true) (x2a : PySem.W.findIn K (.ref E2) "__class__" = some (some (.builtin "object.__class__"))) (x2m : PySem.W.mroIn K E2 (.type "object") = some true) (x2v : PySem.W.subIn K (.ref E2) (.type "ValueError") = some true) (x2w : PySem.W.subIn K (.ref E2) (.ref E0) = some true) (x2e : PySem.W.excIn K E2 [.type "ValueError", .type "Exception", .type "BaseException", .type "object"] "ValueError.__new__" = true) (x2p : PySem.W.keepIn K (.ref E2) = true)
    (y21 : PySem.W.subIn K (.ref E2) (.ref E1) = some false)
    (n21 : E2 ≠ E1)
    (y22 : PySem.W.subIn K (.ref E2) (.ref E2) = some true)
    (y23 : PySem.W.subIn K (.ref E2) (.ref E3) = some false)
    (n23 : E2 ≠ E3)
    (y24 : PySem.W.subIn K (.ref E2) (.ref E4) = some false)
    (n24 : E2 ≠ E4)
    (y25 : PySem.W.subIn K (.ref E2) (.ref E5) = some false)
    (n25 : E2 ≠ E5)
    (y26 : PySem.W.subIn K (.ref E2) (.ref E6) = some false)
    (n26 : E2 ≠ E6)
    (y27 : PySem.W.subIn K (.ref E2) (.ref E7) = some false)
    (n27 : E2 ≠ E7)
    (y28 : PySem.W.subIn K (.ref E2) (.ref E8) = some false)
    (n28 : E2 ≠ E8)
    (x3g : PySem.W.findIn K (.ref E3) "__getattribute__" = some (some (.builtin "BaseException.__getattribute__"))) (x3k : PySem.W.findIn K (.ref E3) "__getattr__" = some none) (x3s : PySem.W.subIn K (.ref E3) (.type "BaseException") = some true) (x3d : PySem.W.hasDictIn K E3 = true) (x3a : PySem.W.findIn K (.ref E3) "__class__" = some (some (.builtin "object.__class__"))) (x3m : PySem.W.mroIn K E3 (.type "object") = some true) (x3v : PySem.W.subIn K (.ref E3) (.type "ValueError") = some true) (x3w : PySem.W.subIn K (.ref E3) (.ref E0) = some true) (x3e : PySem.W.excIn K E3 [.type "ValueError", .type "Exception", .type "BaseException", .type "object"] "ValueError.__new__" = true) (x3p : PySem.W.keepIn K (.ref E3) = true)
    (y31 : PySem.W.subIn K (.ref E3) (.ref E1) = some false)
    (n31 : E3 ≠ E1)
    (y32 : PySem.W.subIn K (.ref E3) (.ref E2) = some false)
    (n32 : E3 ≠ E2)
    (y33 : PySem.W.subIn K (.ref E3) (.ref E3) = some true)
    (y34 : PySem.W.subIn K (.ref E3) (.ref E4) = some false)
    (n34 : E3 ≠ E4)
    (y35 : PySem.W.subIn K (.ref E3) (.ref E5) = some false)
    (n35 : E3 ≠ E5)
    (y36 : PySem.W.subIn K (.ref E3) (.ref E6) = some false)
    (n36 : E3 ≠ E6)
    (y37 : PySem.W.subIn K (.ref E3) (.ref E7) = some false)
    (n37 : E3 ≠ E7)
    (y38 : PySem.W.subIn K (.ref E3) (.ref E8) = some false)
    (n38 : E3 ≠ E8)
    (x4g : PySem.W.findIn K (.ref E4) "__getattribute__" = some (some (.builtin "BaseException.__getattribute__"))) (x4k : PySem.W.findIn K (.ref E4) "__getattr__" = some none) (x4s : PySem.W.subIn K (.ref E4) (.type "BaseException") = some true) (x4d : PySem.W.hasDictIn K E4 = true) (x4a : PySem.W.findIn K (.ref E4) "__class__" = some (some (.builtin "object.__class__"))) (x4m : PySem.W.mroIn K E4 (.type "object") = some true) (x4v : PySem.W.subIn K (.ref E4) (.type "ValueError") = some true) (x4w : PySem.W.subIn K (.ref E4) (.ref E0) = some true) (x4e : PySem.W.excIn K E4 [.type "ValueError", .type "Exception", .type "BaseException", .type "object"] "ValueError.__new__" = true) (x4p : PySem.W.keepIn K (.ref E4) = true)
    (y41 : PySem.W.subIn K (.ref E4) (.ref E1) = some false)
    (n41 : E4 ≠ E1)
    (y42 : PySem.W.subIn K (.ref E4) (.ref E2) = some false)
    (n42 : E4 ≠ E2)
    (y43 : PySem.W.subIn K (.ref E4) (.ref E3) = some false)
    (n43 : E4 ≠ E3)
    (y44 : PySem.W.subIn K (.ref E4) (.ref E4) = some true)
    (y45 : PySem.W.subIn K (.ref E4) (.ref E5) = some false)
    (n45 : E4 ≠ E5)
    (y46 : PySem.W.subIn K (.ref E4) (.ref E6) = some false)
    (n46 : E4 ≠ E6)
    (y47 : PySem.W.subIn K (.ref E4) (.ref E7) = some false)
    (n47 : E4 ≠ E7)
    (y48 : PySem.W.subIn K (.ref E4) (.ref E8) = some false)
    (n48 : E4 ≠ E8)
    (x7g : PySem.W.findIn K (.ref E7) "__getattribute__" = some (some (.builtin "BaseException.__getattribute__"))) (x7k : PySem.W.findIn K (.ref E7) "__getattr__" = some none) (x7s : PySem.W.subIn K (.ref E7) (.type "BaseException") = some true) (x7d : PySem.W.hasDictIn K E7 = true) (x7a : PySem.W.findIn K (.ref E7) "__class__" = some (some (.builtin "object.__class__"))) (x7m : PySem.W.mroIn K E7 (.type "object") = some true) (x7v : PySem.W.subIn K (.ref E7) (.type "ValueError") = some true) (x7w : PySem.W.subIn K (.ref E7) (.ref E0) = some true) (x7e : PySem.W.excIn K E7 [.type "ValueError", .type "Exception", .type "BaseException", .type "object"] "ValueError.__new__" = true) (x7p : PySem.W.keepIn K (.ref E7) = true)
    (y71 : PySem.W.subIn K (.ref E7) (.ref E1) = some false)
    (n71 : E7 ≠ E1)
    (y72 : PySem.W.subIn K (.ref E7) (.ref E2) = some false)
    (n72 : E7 ≠ E2)
    (y73 : PySem.W.subIn K (.ref E7) (.ref E3) = some false)
    (n73 : E7 ≠ E3)
    (y74 : PySem.W.subIn K (.ref E7) (.ref E4) = some false)
    (n74 : E7 ≠ E4)
    (y75 : PySem.W.subIn K (.ref E7) (.ref E5) = some false)
    (n75 : E7 ≠ E5)
    (y76 : PySem.W.subIn K (.ref E7) (.ref E6) = some false)
    (n76 : E7 ≠ E6)
    (y77 : PySem.W.subIn K (.ref E7) (.ref E7) = some true)
    (y78 : PySem.W.subIn K (.ref E7) (.ref E8) = some false)
    (n78 : E7 ≠ E8)
    (aRd : PySem.W.nsIn K mainGlobals "Reader" = some (some (.ref CRd)))
    (aRI : PySem.W.findIn K (.ref CRd) "__init__" = some (some (.ref fRI))) (iRI : PySem.W.isFn K (.ref fRI) = true) (lRI : K.lookup fRI = some ⟨ocRI, odRI, .func (PySem.W.fnOf "__init__" "Reader.__init__" (defArgs sRdInit) (defBody sRdInit) (defScope sRdInit) .none kVRI dcRI pmRI anRI cdRI ctRI), slRI⟩) (cRI : PySem.W.codeIn K cdRI "Reader.__init__" = true) (kRI : PySem.W.keepIn K (.ref fRI) = true)
    (aRL : PySem.W.findIn K (.ref CRd) "look" = some (some (.ref fRL))) (iRL : PySem.W.isFn K (.ref fRL) = true) (lRL : K.lookup fRL = some ⟨ocRL, odRL, .func (PySem.W.fnOf "look" "Reader.look" (defArgs sRdLook) (defBody sRdLook) (defScope sRdLook) (.ref TRL) kVRL dcRL pmRL anRL cdRL ctRL), slRL⟩) (cRL : PySem.W.codeIn K cdRL "Reader.look" = true) (kRL : PySem.W.keepIn K (.ref fRL) = true)
    (dRL : K.lookup TRL = some ⟨toRL, tdRL, .seq #[.none] tnRL, tsRL⟩)
    (pgR : PySem.W.plainGet K CRd Str.empty = true) (hdR : PySem.W.hasDictIn K CRd = true) (poR : PySem.W.plainOver K CRd = true) (saR : PySem.W.findIn K (.ref CRd) "__setattr__" = some (some (.builtin "object.__setattr__"))) (mkR : PySem.W.makesIn K CRd = true) (kcR : PySem.W.keepIn K (.ref CRd) = true) (nWR : PySem.W.findIn K (.ref CRd) "_wheel" = some none) (nRR : PySem.W.findIn K (.ref CRd) "_rule" = some none) (nTR : PySem.W.findIn K (.ref CRd) "_told" = some none)
    (u0 : PySem.W.nsIn K mainGlobals "LEAST_WHEEL" = some (some (.int 2 tk0)))
    (v0 : ((("MOST_WHEEL" : Str), PySem.W.WData.int 1000000000000) : Str × PySem.W.WData) ∈ lv)
    (v1 : ((("MOST_LEAST" : Str), PySem.W.WData.int 1000000000000) : Str × PySem.W.WData) ∈ lv)
    (w0 : PySem.W.nsIn K mainGlobals "lcm" = some (some (.builtin "math.lcm")))
    (z0 : PySem.W.nsIn K mainGlobals "isinstance" = some none)
    (z1 : PySem.W.nsIn K mainGlobals "tuple" = some none)
    (z2 : PySem.W.nsIn K mainGlobals "list" = some none)
    (z3 : PySem.W.nsIn K mainGlobals "len" = some none)
    (z4 : PySem.W.nsIn K mainGlobals "range" = some none)
    (z5 : PySem.W.nsIn K mainGlobals "str" = some none)
    (z6 : PySem.W.nsIn K mainGlobals "bool" = some none)
    (z7 : PySem.W.nsIn K mainGlobals "int" = some none)
    (z8 : PySem.W.nsIn K mainGlobals "ValueError" = some none)
    (z9 : PySem.W.nsIn K mainGlobals "min" = some none)
    (z10 : PySem.W.nsIn K mainGlobals "abs" = some none)
    (z11 : PySem.W.nsIn K mainGlobals "max" = some none) :
    LawAtS PySem.Challenge.rw_wraptime_k02_rules_looked_at w K L2.CX0 11 63 "_law_script" mg fa h := by
  have e := hfa.symm.trans (PySem.W.mg_of X G a29)
  cases e
  have F0 := fun_mk (st := sIsWheel) l0 c0 k0
  have b0 := F0.binds (ps := ["number"]) fun _ _ _ _ _ _ us hl => match us, hl with | [_], _ => rfl
  have g0 := PySem.W.mg_of X G a0
  have F1 := fun_mk (st := sCheckWheel) l1 c1 k1
  have b1 := F1.binds (ps := ["wheel"]) fun _ _ _ _ _ _ us hl => match us, hl with | [_], _ => rfl
  have g1 := PySem.W.mg_of X G a1
  have F2 := fun_mk (st := sCheckSeen) l2 c2 k2
  have b2 := F2.binds (ps := ["wheel", "seen"]) fun _ _ _ _ _ _ us hl => match us, hl with | [_, _], _ => rfl
  have g2 := PySem.W.mg_of X G a2
  have F3 := fun_mk (st := sIsNumber) l3 c3 k3
  have b3 := F3.binds (ps := ["value"]) fun _ _ _ _ _ _ us hl => match us, hl with | [_], _ => rfl
  have g3 := PySem.W.mg_of X G a3
  have F4 := fun_mk (st := sIsRule) l4 c4 k4
  have b4 := F4.binds (ps := ["wheel", "rule"]) fun _ _ _ _ _ _ us hl => match us, hl with | [_, _], _ => rfl
  have g4 := PySem.W.mg_of X G a4
  have F5 := fun_mk (st := sCheckRule) l5 c5 k5
  have b5 := F5.binds (ps := ["wheel", "rule"]) fun _ _ _ _ _ _ us hl => match us, hl with | [_, _], _ => rfl
  have g5 := PySem.W.mg_of X G a5
  have F6 := fun_mk (st := sCheckShown) l6 c6 k6
  have b6 := F6.binds (ps := ["wheel", "rule", "seen"]) fun _ _ _ _ _ _ us hl => match us, hl with | [_, _, _], _ => rfl
  have g6 := PySem.W.mg_of X G a6
  have F7 := fun_mk (st := sShown) l7 c7 k7
  have b7 := F7.binds (ps := ["wheel", "rule", "time"]) fun _ _ _ _ _ _ us hl => match us, hl with | [_, _, _], _ => rfl
  have g7 := PySem.W.mg_of X G a7
  have F8 := fun_mk (st := sLeast) l8 c8 k8
  have b8 := F8.binds (ps := ["wheel", "low", "rest"]) fun _ _ _ _ _ _ us hl => match us, hl with | [_, _, _], _ => rfl
  have g8 := PySem.W.mg_of X G a8
  have F9 := fun_mk (st := sGapAbout) l9 c9 k9
  have b9 := F9.binds (ps := ["wheel", "off", "rest", "about"]) fun _ _ _ _ _ _ us hl => match us, hl with | [_, _, _, _], _ => rfl
  have g9 := PySem.W.mg_of X G a9
  have F10 := fun_mk (st := sCommon) l10 c10 k10
  have b10 := F10.binds (ps := ["wheel", "other_wheel"]) fun _ _ _ _ _ _ us hl => match us, hl with | [_, _], _ => rfl
  have g10 := PySem.W.mg_of X G a10
  have F11 := fun_mk (st := sGapPair) l11 c11 k11
  have b11 := F11.binds (ps := ["wheel", "other_wheel", "one", "other"]) fun _ _ _ _ _ _ us hl => match us, hl with | [_, _, _, _], _ => rfl
  have g11 := PySem.W.mg_of X G a11
  have F12 := fun_mk (st := sBound) l12 c12 k12
  have b12 := F12.binds (ps := ["wheel", "rule"]) fun _ _ _ _ _ _ us hl => match us, hl with | [_, _], _ => rfl
  have g12 := PySem.W.mg_of X G a12
  have F13 := fun_mk (st := sGap) l13 c13 k13
  have b13 := F13.binds (ps := ["wheel", "rule", "one", "other", "about"]) fun _ _ _ _ _ _ us hl => match us, hl with | [_, _, _, _, _], _ => rfl
  have g13 := PySem.W.mg_of X G a13
  have F14 := fun_mk (st := sJudged) l14 c14 k14
  have b14 := F14.binds (ps := ["wheel", "rule", "least", "most"]) fun _ _ _ _ _ _ us hl => match us, hl with | [_, _, _, _], _ => rfl
  have g14 := PySem.W.mg_of X G a14
  have F15 := fun_mk (st := sCheckCounts) l15 c15 k15
  have b15 := F15.binds (ps := ["rule", "times", "abouts"]) fun _ _ _ _ _ _ us hl => match us, hl with | [_, _, _], _ => rfl
  have g15 := PySem.W.mg_of X G a15
  have F16 := fun_mk (st := sTells) l16 c16 k16
  have b16 := F16.binds (ps := ["reader", "seen", "about", "time"]) fun _ _ _ _ _ _ us hl => match us, hl with | [_, _, _, _], _ => rfl
  have g16 := PySem.W.mg_of X G a16
  have F17 := fun_mk (st := sFirstWrong) l17 c17 k17
  have b17 := F17.binds (ps := ["wheel", "rule", "times", "abouts"]) fun _ _ _ _ _ _ us hl => match us, hl with | [_, _, _, _], _ => rfl
  have g17 := PySem.W.mg_of X G a17
  have F18 := fun_mk (st := sStart) l18 c18 k18
  have b18 := F18.binds (ps := ["_law_script"]) fun _ _ _ _ _ _ us hl => match us, hl with | [_], _ => rfl
  have g18 := PySem.W.mg_of X G a18
  have F19 := fun_mk (st := sDrawn) l19 c19 k19
  have b19 := F19.binds (ps := ["_law_state", "_law_many"]) fun _ _ _ _ _ _ us hl => match us, hl with | [_, _], _ => rfl
  have g19 := PySem.W.mg_of X G a19
  have F20 := fun_mk (st := sSame) l20 c20 k20
  have b20 := F20.binds (ps := ["_law_found", "_law_due"]) fun _ _ _ _ _ _ us hl => match us, hl with | [_, _], _ => rfl
  have g20 := PySem.W.mg_of X G a20
  have F21 := fun_mk (st := sKind) l21 c21 k21
  have b21 := F21.binds (ps := ["_law_work"]) fun _ _ _ _ _ _ us hl => match us, hl with | [_], _ => rfl
  have g21 := PySem.W.mg_of X G a21
  have F22 := fun_mk (st := sFar) l22 c22 k22
  have b22 := F22.binds (ps := ["_law_state", "_law_least", "_law_most"]) fun _ _ _ _ _ _ us hl => match us, hl with | [_, _, _], _ => rfl
  have g22 := PySem.W.mg_of X G a22
  have F23 := fun_mk (st := sWheel) l23 c23 k23
  have b23 := F23.binds (ps := ["_law_state"]) fun _ _ _ _ _ _ us hl => match us, hl with | [_], _ => rfl
  have g23 := PySem.W.mg_of X G a23
  have F24 := fun_mk (st := sRule) l24 c24 k24
  have b24 := F24.binds (ps := ["_law_state", "_law_wheel_here"]) fun _ _ _ _ _ _ us hl => match us, hl with | [_, _], _ => rfl
  have g24 := PySem.W.mg_of X G a24
  have F25 := fun_mk (st := sTime) l25 c25 k25
  have b25 := F25.binds (ps := ["_law_state"]) fun _ _ _ _ _ _ us hl => match us, hl with | [_], _ => rfl
  have g25 := PySem.W.mg_of X G a25
  have F26 := fun_mk (st := sLShown) l26 c26 k26
  have b26 := F26.binds (ps := ["_law_wheel_here", "_law_rule_here", "_law_time_here"]) fun _ _ _ _ _ _ us hl => match us, hl with | [_, _, _], _ => rfl
  have g26 := PySem.W.mg_of X G a26
  have F27 := fun_mk (st := sOdd) l27 c27 k27
  have b27 := F27.binds (ps := ["_law_state", "_law_wheel_here"]) fun _ _ _ _ _ _ us hl => match us, hl with | [_, _], _ => rfl
  have g27 := PySem.W.mg_of X G a27
  have F28 := fun_mk (st := sWorks) l28 c28 k28
  have b28 := F28.binds (ps := ["_law_wheel_here", "_law_rule_here", "_law_one"]) fun _ _ _ _ _ _ us hl => match us, hl with | [_, _, _], _ => rfl
  have g28 := PySem.W.mg_of X G a28
  have F29 := fun_mk (st := sLaw) l29 c29 k29
  have b29 := F29.binds (ps := ["_law_script"]) fun _ _ _ _ _ _ us hl => match us, hl with | [_], _ => rfl
  have g29 := PySem.W.mg_of X G a29
  have ge0 := PySem.W.mg_of X G e0
  have ge1 := PySem.W.mg_of X G e1
  have ge2 := PySem.W.mg_of X G e2
  have ge3 := PySem.W.mg_of X G e3
  have ge4 := PySem.W.mg_of X G e4
  have ge5 := PySem.W.mg_of X G e5
  have ge6 := PySem.W.mg_of X G e6
  have ge7 := PySem.W.mg_of X G e7
  have ge8 := PySem.W.mg_of X G e8
  have gRd := PySem.W.mg_of X G aRd
  have TRd : RdTxt K CRd := ⟨⟨pgR, hdR, poR, saR⟩, nWR, nRR, nTR⟩
  have FRI := fun_mk (st := sRdInit) lRI cRI kRI
  have bRI := FRI.binds (ps := ["self", "wheel", "rule", "begun"]) fun _ _ _ _ _ _ us hl => match us, hl with | [_, _, _, _], _ => rfl
  have FRL : FunD K "look" "Reader.look" (defArgs sRdLook) (defBody sRdLook) (defScope sRdLook) [.non] [] fRL (PySem.W.fnOf "look" "Reader.look" (defArgs sRdLook) (defBody sRdLook) (defScope sRdLook) (.ref TRL) kVRL dcRL pmRL anRL cdRL ctRL) := ⟨⟨_, _, _, _, _, _, _, _, _, _, rfl, lRL, cRL, .inr ⟨by decide, TRL, _, [.none], _, rfl, dRL, rfl, .cons rfl .nil⟩, .inl rfl⟩, kRL⟩
  obtain ⟨ds3, v3, b3L⟩ := FRL.binds1 (ps := ["self", "seen", "about"]) 3 1 (by decide) rfl (fun _ _ _ _ _ _ _ us its h1 h2 => match us, its, h1, h2 with | [_, _, _], [_], _, _ => ⟨_, rfl, rfl⟩)
  have gu0 := PySem.W.mg_of X G u0
  obtain ⟨tv0, gv0⟩ := loose_int XL v0
  obtain ⟨tv1, gv1⟩ := loose_int XL v1
  have gw0 := PySem.W.mg_of X G w0
  have gz0 := PySem.W.mg_none_of X G z0
  have gz1 := PySem.W.mg_none_of X G z1
  have gz2 := PySem.W.mg_none_of X G z2
  have gz3 := PySem.W.mg_none_of X G z3
  have gz4 := PySem.W.mg_none_of X G z4
  have gz5 := PySem.W.mg_none_of X G z5
  have gz6 := PySem.W.mg_none_of X G z6
  have gz7 := PySem.W.mg_none_of X G z7
  have gz8 := PySem.W.mg_none_of X G z8
  have gz9 := PySem.W.mg_none_of X G z9
  have gz10 := PySem.W.mg_none_of X G z10
  have gz11 := PySem.W.mg_none_of X G z11
  let Cs : _root_.Fin 8 → Addr := fun i => match i with | 0 => E1 | 1 => E2 | 2 => E3 | 3 => E4 | 4 => E5 | 5 => E6 | 6 => E7 | 7 => E8
  have N9 : Nine mg E0 Cs := ⟨ge0, ge1, ge2, ge3, ge4, ge5, ge6, ge7, ge8, gz0, gz8⟩
  have kd1 : Kd K E0 Cs E1 0 := Kd.of (Cs := Cs) (j := 0) ⟨⟨x1g, x1k, x1s, x1d, x1a, sn, st, x1m⟩, i1, t1, x1v⟩ sE dE tE x1w (fun i => match i with | 0 => i1 | 1 => i2 | 2 => i3 | 3 => i4 | 4 => i5 | 5 => i6 | 6 => i7 | 7 => i8) (fun i => match i with | 0 => t1 | 1 => t2 | 2 => t3 | 3 => t4 | 4 => t5 | 5 => t6 | 6 => t7 | 7 => t8)
    (fun i => match i with | 0 => y11 | 1 => y12 | 2 => y13 | 3 => y14 | 4 => y15 | 5 => y16 | 6 => y17 | 7 => y18) (fun i => match i with | 0 => fun _ => rfl | 1 => fun z => absurd z n12 | 2 => fun z => absurd z n13 | 3 => fun z => absurd z n14 | 4 => fun z => absurd z n15 | 5 => fun z => absurd z n16 | 6 => fun z => absurd z n17 | 7 => fun z => absurd z n18)
  have rf1 : Rf K mg "BadWheel" E1 := ⟨ge1, x1e, x1p, x1s, t1⟩
  have kd2 : Kd K E0 Cs E2 1 := Kd.of (Cs := Cs) (j := 1) ⟨⟨x2g, x2k, x2s, x2d, x2a, sn, st, x2m⟩, i2, t2, x2v⟩ sE dE tE x2w (fun i => match i with | 0 => i1 | 1 => i2 | 2 => i3 | 3 => i4 | 4 => i5 | 5 => i6 | 6 => i7 | 7 => i8) (fun i => match i with | 0 => t1 | 1 => t2 | 2 => t3 | 3 => t4 | 4 => t5 | 5 => t6 | 6 => t7 | 7 => t8)
    (fun i => match i with | 0 => y21 | 1 => y22 | 2 => y23 | 3 => y24 | 4 => y25 | 5 => y26 | 6 => y27 | 7 => y28) (fun i => match i with | 0 => fun z => absurd z n21 | 1 => fun _ => rfl | 2 => fun z => absurd z n23 | 3 => fun z => absurd z n24 | 4 => fun z => absurd z n25 | 5 => fun z => absurd z n26 | 6 => fun z => absurd z n27 | 7 => fun z => absurd z n28)
  have rf2 : Rf K mg "BadRule" E2 := ⟨ge2, x2e, x2p, x2s, t2⟩
  have kd3 : Kd K E0 Cs E3 2 := Kd.of (Cs := Cs) (j := 2) ⟨⟨x3g, x3k, x3s, x3d, x3a, sn, st, x3m⟩, i3, t3, x3v⟩ sE dE tE x3w (fun i => match i with | 0 => i1 | 1 => i2 | 2 => i3 | 3 => i4 | 4 => i5 | 5 => i6 | 6 => i7 | 7 => i8) (fun i => match i with | 0 => t1 | 1 => t2 | 2 => t3 | 3 => t4 | 4 => t5 | 5 => t6 | 6 => t7 | 7 => t8)
    (fun i => match i with | 0 => y31 | 1 => y32 | 2 => y33 | 3 => y34 | 4 => y35 | 5 => y36 | 6 => y37 | 7 => y38) (fun i => match i with | 0 => fun z => absurd z n31 | 1 => fun z => absurd z n32 | 2 => fun _ => rfl | 3 => fun z => absurd z n34 | 4 => fun z => absurd z n35 | 5 => fun z => absurd z n36 | 6 => fun z => absurd z n37 | 7 => fun z => absurd z n38)
  have rf3 : Rf K mg "BadSeen" E3 := ⟨ge3, x3e, x3p, x3s, t3⟩
  have kd4 : Kd K E0 Cs E4 3 := Kd.of (Cs := Cs) (j := 3) ⟨⟨x4g, x4k, x4s, x4d, x4a, sn, st, x4m⟩, i4, t4, x4v⟩ sE dE tE x4w (fun i => match i with | 0 => i1 | 1 => i2 | 2 => i3 | 3 => i4 | 4 => i5 | 5 => i6 | 6 => i7 | 7 => i8) (fun i => match i with | 0 => t1 | 1 => t2 | 2 => t3 | 3 => t4 | 4 => t5 | 5 => t6 | 6 => t7 | 7 => t8)
    (fun i => match i with | 0 => y41 | 1 => y42 | 2 => y43 | 3 => y44 | 4 => y45 | 5 => y46 | 6 => y47 | 7 => y48) (fun i => match i with | 0 => fun z => absurd z n41 | 1 => fun z => absurd z n42 | 2 => fun z => absurd z n43 | 3 => fun _ => rfl | 4 => fun z => absurd z n45 | 5 => fun z => absurd z n46 | 6 => fun z => absurd z n47 | 7 => fun z => absurd z n48)
  have rf4 : Rf K mg "BadGaps" E4 := ⟨ge4, x4e, x4p, x4s, t4⟩
  have kd7 : Kd K E0 Cs E7 6 := Kd.of (Cs := Cs) (j := 6) ⟨⟨x7g, x7k, x7s, x7d, x7a, sn, st, x7m⟩, i7, t7, x7v⟩ sE dE tE x7w (fun i => match i with | 0 => i1 | 1 => i2 | 2 => i3 | 3 => i4 | 4 => i5 | 5 => i6 | 6 => i7 | 7 => i8) (fun i => match i with | 0 => t1 | 1 => t2 | 2 => t3 | 3 => t4 | 4 => t5 | 5 => t6 | 6 => t7 | 7 => t8)
    (fun i => match i with | 0 => y71 | 1 => y72 | 2 => y73 | 3 => y74 | 4 => y75 | 5 => y76 | 6 => y77 | 7 => y78) (fun i => match i with | 0 => fun z => absurd z n71 | 1 => fun z => absurd z n72 | 2 => fun z => absurd z n73 | 3 => fun z => absurd z n74 | 4 => fun z => absurd z n75 | 5 => fun z => absurd z n76 | 6 => fun _ => rfl | 7 => fun z => absurd z n78)
  have rf7 : Rf K mg "NoGap" E7 := ⟨ge7, x7e, x7p, x7s, t7⟩
  refine ⟨PySem.W.fnOf "law" "law" (defArgs sLaw) (defBody sLaw) (defScope sLaw) .none kV29 dc29 pm29 an29 (.ref cL) ct29, [(cL, P0), (cW, P1)], spLaw K P0 P1, fun p hp => ?_, fun p hp => ?_, fun p hp => ?_, fun s u => .of_eq rfl, fun H a ns _ _ hT hS => ?_, fun base hB hG hTB => ?_⟩
  · rcases List.mem_cons.mp hp with h | h; (rw [h]; exact tabs P0 pm); (rw [List.mem_singleton.mp h]; exact tabs P1 pm1)
  · rcases List.mem_cons.mp hp with h | h; (rw [h]; exact nP); (rw [List.mem_singleton.mp h]; exact nP1)
  · rcases List.mem_cons.mp hp with h | h; (rw [h]; exact PySem.W.codeHd_of_K X hh); (rw [List.mem_singleton.mp h]; exact PySem.W.codeHd_of_K X hh1)
  · refine ⟨a, ns, rfl, hS, fun p hp => ?_, fun _ => rfl⟩
    rcases List.mem_cons.mp hp with h | h; (rw [h]; exact TabS.nil (hT (cL, P0) List.mem_cons_self)); (rw [List.mem_singleton.mp h]; exact TabS.nil (hT (cW, P1) (List.mem_cons_of_mem _ List.mem_cons_self)))
  · have TB := hTB (cL, P0) List.mem_cons_self
    have TB1 := hTB (cW, P1) (List.mem_cons_of_mem _ List.mem_cons_self)
    have B : Bl mg := ⟨gz0, gz1, gz2, gz3, gz4, gz5, gz6, gz7⟩
    have D0 := Kn.of F0 (ok_isWheel (P := PySem.Challenge.rw_wraptime_k02_rules_looked_at.prog) (w := w) (base := base) (k := 0) F0 gu0 gv0) g0 b0
    have D1 := Kn.of F1 (ok_checkWheel (k := 1) F1 D0 (by decide) rf1) g1 b1
    have D2 := Kn.of F2 (ok_checkSeen (P := PySem.Challenge.rw_wraptime_k02_rules_looked_at.prog) (w := w) (base := base) (k := 0) F2 rf3) g2 b2
    have D3 := Kn.of F3 (ok_isNumber (P := PySem.Challenge.rw_wraptime_k02_rules_looked_at.prog) (w := w) (base := base) (k := 0) F3 B) g3 b3
    have D4 := Kn.of F4 (ok_isRule (k := 1) F4 B D3 D0 (by decide) gv1) g4 b4
    have D5 := Kn.of F5 (ok_checkRule (k := 2) F5 D1 D4 (by decide) (by decide) rf2) g5 b5
    have Dcr4 := Kn.of F5 (ok_checkRule (k := 3) F5 D1 D4 (by decide) (by decide) rf2) g5 b5
    have Dcr6 := Kn.of F5 (ok_checkRule (k := 5) F5 D1 D4 (by decide) (by decide) rf2) g5 b5
    have D6 := Kn.of F6 (ok_checkShown (k := 3) F6 D2 (by decide)) g6 b6
    have D8 := Kn.of F8 (ok_least (P := PySem.Challenge.rw_wraptime_k02_rules_looked_at.prog) (w := w) (base := base) (mg := mg) (k := 2) F8) g8 b8
    have Dlf4 := Kn.of F8 (ok_least (P := PySem.Challenge.rw_wraptime_k02_rules_looked_at.prog) (w := w) (base := base) (mg := mg) (k := 3) F8) g8 b8
    have D9 := Kn.of F9 (ok_gapAbout (k := 3) F9 D8 (by decide) rf7) g9 b9
    have D10 := Kn.of F10 (ok_common (P := PySem.Challenge.rw_wraptime_k02_rules_looked_at.prog) (w := w) (base := base) (mg := mg) (k := 0) F10) g10 b10
    have D11 := Kn.of F11 (ok_gapPair (k := 3) F11 D10 (by decide) rf7) g11 b11
    have D12 := Kn.of F12 (ok_bound (k := 3) F12 D5 (by decide) gw0) g12 b12
    have Dbo8 := Kn.of F12 (ok_bound (k := 7) F12 D5 (by decide) gw0) g12 b12
    have D13 := Kn.of F13 (ok_gap (k := 4) F13 Dcr4 D6 D11 D9 D12 Dlf4 (by decide)) g13 b13
    have Dga8 := Kn.of F13 (ok_gap (k := 7) F13 Dcr4 D6 D11 D9 D12 Dlf4 (by decide)) g13 b13
    have D14 := Kn.of F14 (ok_judged (k := 7) F14 D12 (by decide) gz11 rf4) g14 b14
    have Dsh5 := Kn.of F7 (ok_shown (k := 4) F7 D5 (by decide)) g7 b7
    have Dsh6 := Kn.of F7 (ok_shown (k := 5) F7 D5 (by decide)) g7 b7
    have D7 := Kn.of F7 (ok_shownT (k := 7) F7 D5 (by decide)) g7 b7
    have DRL6 : KnM _ w K mg base (L2.CX _ w) 6 CRd "look" ["self", "seen", "about"] [] (spRdLook K CRd E3 E7) := ⟨⟨fRL, _, ds3, ok_rdLook (k := 5) FRL TRd Dsh5 D13 (by decide), ⟨aRL, iRL, kRL⟩, b3L, v3⟩, TRd.cl⟩
    have DRL8 : KnM _ w K mg base (L2.CX _ w) 8 CRd "look" ["self", "seen", "about"] [] (spRdLook K CRd E3 E7) := ⟨⟨fRL, _, ds3, ok_rdLook (k := 7) FRL TRd Dsh5 D13 (by decide), ⟨aRL, iRL, kRL⟩, b3L, v3⟩, TRd.cl⟩
    have DRI6 : KnI _ w K mg base (L2.CX _ w) 6 CRd "Reader" ["self", "wheel", "rule", "begun"] (spRdInit CRd E1 E2 K) := ⟨fRI, _, ok_rdInit (k := 5) FRI TRd D5 (by decide), ⟨mkR, aRI, iRI, kcR⟩, gRd, bRI⟩
    have DRI7 : KnI _ w K mg base (L2.CX _ w) 7 CRd "Reader" ["self", "wheel", "rule", "begun"] (spRdInit CRd E1 E2 K) := ⟨fRI, _, ok_rdInit (k := 6) FRI TRd D5 (by decide), ⟨mkR, aRI, iRI, kcR⟩, gRd, bRI⟩
    have D16 := Kn.of F16 (ok_tells (k := 6) F16 DRL6 (by decide) ge7 (PySem.W.exm_ref x7s x7d t7 y77)) g16 b16
    have D15 := Kn.of F15 (ok_checkCounts (P := PySem.Challenge.rw_wraptime_k02_rules_looked_at.prog) (w := w) (base := base) (k := 5) F15 B.len rf4) g15 b15
    have D17 := Kn.of F17 (ok_firstWrong (i := 6) (k := 7) F17 Dcr6 D15 DRI6 Dsh6 D16 (by decide) B.len B.rng) g17 b17
    have D18 := Kn.of F18 (ok_start (P := PySem.Challenge.rw_wraptime_k02_rules_looked_at.prog) (w := w) (base := base) (mg := mg) (k := 0) F18) g18 b18
    have D19 := Kn.of F19 (ok_drawn (P := PySem.Challenge.rw_wraptime_k02_rules_looked_at.prog) (w := w) (base := base) (k := 0) F19 B.len) g19 b19
    have Ddr2 := Kn.of F19 (ok_drawn (P := PySem.Challenge.rw_wraptime_k02_rules_looked_at.prog) (w := w) (base := base) (k := 1) F19 B.len) g19 b19
    have S0 := Kn.of F20 (no_ok (P := PySem.Challenge.rw_wraptime_k02_rules_looked_at.prog) (w := w) (K := K) (mg := mg) (base := base) (ps := ["_law_found", "_law_due"])) g20 b20
    have S1 := Kn.of F20 (ok_same (k := 0) F20 B S0 (by decide)) g20 b20
    have D20 := Kn.of F20 (ok_same (k := 1) F20 B S1 (by decide)) g20 b20
    have D22 := Kn.of F22 (ok_far (k := 1) F22 D19 (by decide)) g22 b22
    have D23 := Kn.of F23 (ok_wheel (k := 1) F23 D19 (by decide)) g23 b23
    have D24 := Kn.of F24 (ok_rule (k := 2) F24 Ddr2 D23 gz9 (by decide)) g24 b24
    have D25 := Kn.of F25 (ok_time (k := 1) F25 D19 (by decide)) g25 b25
    have D26 := Kn.of F26 (ok_lshownT (P := PySem.Challenge.rw_wraptime_k02_rules_looked_at.prog) (w := w) (base := base) (mg := mg) (k := 0) F26) g26 b26
    have D27 := Kn.of F27 (ok_odd (k := 2) F27 D19 D22 (by decide) (by decide) gz10) g27 b27
    have D28 := Kn.of F28 (ok_works (P1 := P1) (P := PySem.Challenge.rw_wraptime_k02_rules_looked_at.prog) (w := w) (base := base) l28 c28 TB1 np01) g28 b28
    have GK := ok_kind (P := PySem.Challenge.rw_wraptime_k02_rules_looked_at.prog) (w := w) (base := base) (k := 9) (j := 9) F21 b21 N9 (by decide)
    have GC := ok_kindC (P := PySem.Challenge.rw_wraptime_k02_rules_looked_at.prog) (w := w) (base := base) (k := 9) (j := 9) F21 b21 N9 (by decide)
    exact ok_law l29 c29 TB np01 B D18 D19 D23 D24 D25 D22 D20 D26 D27 D28 D7 Dga8 Dbo8 D14 DRI7 DRL8 D17 GK GC g21 k21 kd1 kd2 kd3 kd4
end K2
open PySem PySem.W PyProof.Rows
set_option maxHeartbeats 0 in
theorem PySem.Challenge.cw_wraptime_k02_rules_looked_at_holds : PySem.Challenge.rw_wraptime_k02_rules_looked_at.Holds := by
  w_on; o_law; k_head; (case hw => w_witness2)
  k_fill
  refine Lx.walk_ofX (l := PySem.Challenge.rw_wraptime_k02_rules_looked_at) (n := 63) (k := 11) (x := "_law_script") (CX := fun _ => L2.CX0) rfl (by decide) rfl ⟨rfl, by decide, by decide⟩ (fun w h Y => PySem.W.km_in_of Y) ?F (fun _ _ _ _ _ h => h)
  case F =>
    intro w mg fa h Y XL KX G hmg
    refine' K2.all_mk KX G hmg (PySem.W.km_tabs_of Y) XL ?a0 ?l0 ?c0 ?k0 ?a1 ?l1 ?c1 ?k1 ?a2 ?l2 ?c2 ?k2 ?a3 ?l3 ?c3 ?k3 ?a4 ?l4 ?c4 ?k4 ?a5 ?l5 ?c5 ?k5 ?a6 ?l6 ?c6 ?k6 ?a7 ?l7 ?c7 ?k7 ?a8 ?l8 ?c8 ?k8 ?a9 ?l9 ?c9 ?k9 ?a10 ?l10 ?c10 ?k10 ?a11 ?l11 ?c11 ?k11 ?a12 ?l12 ?c12 ?k12 ?a13 ?l13 ?c13 ?k13 ?a14 ?l14 ?c14 ?k14 ?a15 ?l15 ?c15 ?k15 ?a16 ?l16 ?c16 ?k16 ?a17 ?l17 ?c17 ?k17 ?a18 ?l18 ?c18 ?k18 ?a19 ?l19 ?c19 ?k19 ?a20 ?l20 ?c20 ?k20 ?a21 ?l21 ?c21 ?k21 ?a22 ?l22 ?c22 ?k22 ?a23 ?l23 ?c23 ?k23 ?a24 ?l24 ?c24 ?k24 ?a25 ?l25 ?c25 ?k25 ?a26 ?l26 ?c26 ?k26 ?a27 ?l27 ?c27 ?k27 ?a28 ?l28 ?c28 ?k28 ?a29 ?l29 ?c29 ?k29 ?lc ?v11 ?hh ?nP ?pm ?lc1 ?v111 ?hh1 ?nP1 ?pm1 ?np01 ?e0 ?e1 ?e2 ?e3 ?e4 ?e5 ?e6 ?e7 ?e8 ?sE ?dE ?tE ?i1 ?t1 ?i2 ?t2 ?i3 ?t3 ?i4 ?t4 ?i5 ?t5 ?i6 ?t6 ?i7 ?t7 ?i8 ?t8 ?sn ?st ?x1g ?x1k ?x1s ?x1d ?x1a ?x1m ?x1v ?x1w ?x1e ?x1p ?y11 ?y12 ?n12 ?y13 ?n13 ?y14 ?n14 ?y15 ?n15 ?y16 ?n16 ?y17 ?n17 ?y18 ?n18 ?x2g ?x2k ?x2s ?x2d ?x2a ?x2m ?x2v ?x2w ?x2e ?x2p ?y21 ?n21 ?y22 ?y23 ?n23 ?y24 ?n24 ?y25 ?n25 ?y26 ?n26 ?y27 ?n27 ?y28 ?n28 ?x3g ?x3k ?x3s ?x3d ?x3a ?x3m ?x3v ?x3w ?x3e ?x3p ?y31 ?n31 ?y32 ?n32 ?y33 ?y34 ?n34 ?y35 ?n35 ?y36 ?n36 ?y37 ?n37 ?y38 ?n38 ?x4g ?x4k ?x4s ?x4d ?x4a ?x4m ?x4v ?x4w ?x4e ?x4p ?y41 ?n41 ?y42 ?n42 ?y43 ?n43 ?y44 ?y45 ?n45 ?y46 ?n46 ?y47 ?n47 ?y48 ?n48 ?x7g ?x7k ?x7s ?x7d ?x7a ?x7m ?x7v ?x7w ?x7e ?x7p ?y71 ?n71 ?y72 ?n72 ?y73 ?n73 ?y74 ?n74 ?y75 ?n75 ?y76 ?n76 ?y77 ?y78 ?n78 ?aRd ?aRI ?iRI ?lRI ?cRI ?kRI ?aRL ?iRL ?lRL ?cRL ?kRL ?dRL ?pgR ?hdR ?poR ?saR ?mkR ?kcR ?nWR ?nRR ?nTR ?u0 ?v0 ?v1 ?w0 ?z0 ?z1 ?z2 ?z3 ?z4 ?z5 ?z6 ?z7 ?z8 ?z9 ?z10 ?z11
    (case a0 => k_is); (case l0 => k_is); (case c0 => k_is); (case k0 => k_is); (case a1 => k_is); (case l1 => k_is); (case c1 => k_is); (case k1 => k_is); (case a2 => k_is); (case l2 => k_is); (case c2 => k_is); (case k2 => k_is); (case a3 => k_is); (case l3 => k_is); (case c3 => k_is); (case k3 => k_is); (case a4 => k_is); (case l4 => k_is); (case c4 => k_is); (case k4 => k_is); (case a5 => k_is); (case l5 => k_is); (case c5 => k_is); (case k5 => k_is); (case a6 => k_is); (case l6 => k_is); (case c6 => k_is); (case k6 => k_is); (case a7 => k_is); (case l7 => k_is); (case c7 => k_is); (case k7 => k_is); (case a8 => k_is); (case l8 => k_is); (case c8 => k_is); (case k8 => k_is); (case a9 => k_is); (case l9 => k_is); (case c9 => k_is); (case k9 => k_is); (case a10 => k_is); (case l10 => k_is); (case c10 => k_is); (case k10 => k_is); (case a11 => k_is); (case l11 => k_is); (case c11 => k_is); (case k11 => k_is); (case a12 => k_is); (case l12 => k_is); (case c12 => k_is); (case k12 => k_is); (case a13 => k_is); (case l13 => k_is); (case c13 => k_is); (case k13 => k_is); (case a14 => k_is); (case l14 => k_is); (case c14 => k_is); (case k14 => k_is); (case a15 => k_is); (case l15 => k_is); (case c15 => k_is); (case k15 => k_is); (case a16 => k_is); (case l16 => k_is); (case c16 => k_is); (case k16 => k_is); (case a17 => k_is); (case l17 => k_is); (case c17 => k_is); (case k17 => k_is); (case a18 => k_is); (case l18 => k_is); (case c18 => k_is); (case k18 => k_is); (case a19 => k_is); (case l19 => k_is); (case c19 => k_is); (case k19 => k_is); (case a20 => k_is); (case l20 => k_is); (case c20 => k_is); (case k20 => k_is); (case a21 => k_is); (case l21 => k_is); (case c21 => k_is); (case k21 => k_is); (case a22 => k_is); (case l22 => k_is); (case c22 => k_is); (case k22 => k_is); (case a23 => k_is); (case l23 => k_is); (case c23 => k_is); (case k23 => k_is); (case a24 => k_is); (case l24 => k_is); (case c24 => k_is); (case k24 => k_is); (case a25 => k_is); (case l25 => k_is); (case c25 => k_is); (case k25 => k_is); (case a26 => k_is); (case l26 => k_is); (case c26 => k_is); (case k26 => k_is); (case a27 => k_is); (case l27 => k_is); (case c27 => k_is); (case k27 => k_is); (case a28 => k_is); (case l28 => k_is); (case c28 => k_is); (case k28 => k_is); (case a29 => k_is); (case l29 => k_is); (case c29 => k_is); (case k29 => k_is); (case lc => k_is); (case v11 => rfl); (case hh => kernel_rfl); (case nP => kernel_rfl); (case pm => decide); (case lc1 => k_is); (case v111 => rfl); (case hh1 => kernel_rfl); (case nP1 => kernel_rfl); (case pm1 => decide); (case np01 => decide); (case e0 => k_is); (case e1 => k_is); (case e2 => k_is); (case e3 => k_is); (case e4 => k_is); (case e5 => k_is); (case e6 => k_is); (case e7 => k_is); (case e8 => k_is); (case sE => k_is); (case dE => k_is); (case tE => k_is); (case i1 => k_is); (case t1 => k_is); (case i2 => k_is); (case t2 => k_is); (case i3 => k_is); (case t3 => k_is); (case i4 => k_is); (case t4 => k_is); (case i5 => k_is); (case t5 => k_is); (case i6 => k_is); (case t6 => k_is); (case i7 => k_is); (case t7 => k_is); (case i8 => k_is); (case t8 => k_is); (case sn => k_is); (case st => k_is); (case x1g => k_is); (case x1k => k_is); (case x1s => k_is); (case x1d => k_is); (case x1a => k_is); (case x1m => k_is); (case x1v => k_is); (case x1w => k_is); (case x1e => k_exc); (case x1p => k_is); (case y11 => k_is); (case y12 => k_is); (case n12 => decide); (case y13 => k_is); (case n13 => decide); (case y14 => k_is); (case n14 => decide); (case y15 => k_is); (case n15 => decide); (case y16 => k_is); (case n16 => decide); (case y17 => k_is); (case n17 => decide); (case y18 => k_is); (case n18 => decide); (case x2g => k_is); (case x2k => k_is); (case x2s => k_is); (case x2d => k_is); (case x2a => k_is); (case x2m => k_is); (case x2v => k_is); (case x2w => k_is); (case x2e => k_exc); (case x2p => k_is); (case y21 => k_is); (case n21 => decide); (case y22 => k_is); (case y23 => k_is); (case n23 => decide); (case y24 => k_is); (case n24 => decide); (case y25 => k_is); (case n25 => decide); (case y26 => k_is); (case n26 => decide); (case y27 => k_is); (case n27 => decide); (case y28 => k_is); (case n28 => decide); (case x3g => k_is); (case x3k => k_is); (case x3s => k_is); (case x3d => k_is); (case x3a => k_is); (case x3m => k_is); (case x3v => k_is); (case x3w => k_is); (case x3e => k_exc); (case x3p => k_is); (case y31 => k_is); (case n31 => decide); (case y32 => k_is); (case n32 => decide); (case y33 => k_is); (case y34 => k_is); (case n34 => decide); (case y35 => k_is); (case n35 => decide); (case y36 => k_is); (case n36 => decide); (case y37 => k_is); (case n37 => decide); (case y38 => k_is); (case n38 => decide); (case x4g => k_is); (case x4k => k_is); (case x4s => k_is); (case x4d => k_is); (case x4a => k_is); (case x4m => k_is); (case x4v => k_is); (case x4w => k_is); (case x4e => k_exc); (case x4p => k_is); (case y41 => k_is); (case n41 => decide); (case y42 => k_is); (case n42 => decide); (case y43 => k_is); (case n43 => decide); (case y44 => k_is); (case y45 => k_is); (case n45 => decide); (case y46 => k_is); (case n46 => decide); (case y47 => k_is); (case n47 => decide); (case y48 => k_is); (case n48 => decide); (case x7g => k_is); (case x7k => k_is); (case x7s => k_is); (case x7d => k_is); (case x7a => k_is); (case x7m => k_is); (case x7v => k_is); (case x7w => k_is); (case x7e => k_exc); (case x7p => k_is); (case y71 => k_is); (case n71 => decide); (case y72 => k_is); (case n72 => decide); (case y73 => k_is); (case n73 => decide); (case y74 => k_is); (case n74 => decide); (case y75 => k_is); (case n75 => decide); (case y76 => k_is); (case n76 => decide); (case y77 => k_is); (case y78 => k_is); (case n78 => decide); (case aRd => k_is); (case aRI => k_is); (case iRI => k_is); (case lRI => k_is); (case cRI => k_is); (case kRI => k_is); (case aRL => k_is); (case iRL => k_is); (case lRL => k_is); (case cRL => k_is); (case kRL => k_is); (case dRL => k_is); (case pgR => k_is); (case hdR => k_is); (case poR => k_is); (case saR => k_is); (case mkR => k_is); (case kcR => k_is); (case nWR => k_is); (case nRR => k_is); (case nTR => k_is); (case u0 => k_is); (case v0 => repeat (first | exact List.Mem.head _ | apply List.Mem.tail)); (case v1 => repeat (first | exact List.Mem.head _ | apply List.Mem.tail)); (case w0 => k_is); (case z0 => k_is); (case z1 => k_is); (case z2 => k_is); (case z3 => k_is); (case z4 => k_is); (case z5 => k_is); (case z6 => k_is); (case z7 => k_is); (case z8 => k_is); (case z9 => k_is); (case z10 => k_is); (case z11 => k_is)


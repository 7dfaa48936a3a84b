import PyProof.Rows.All
import Wide.All
import OpenK.AllK
import Wide.FinOn
import PyProof.ReprRoads
import HandS.ForMost
import HandS.ForExc
import HandS.EndBits
import HandS.ExcInit
import KE.KExcInit
import KE.KExcIs
import HandS.IsInst
import KE.KExcLine
import PySem.Challenge.RW_lesslater_k40_errors_and_bounds
set_option Elab.async false
set_option linter.all false
set_option maxRecDepth 100000
set_option maxHeartbeats 2000000
/-! a def that is run where no repr is under way, and the end of a law for such a def -/
namespace LL
open PySem PySem.Spec PyProof.Rows L2

structure GOk (P : Program) (w : World) (K : PySem.W.Frag) (mg : Str → Option Value) (base : Heap)
    (CX : CXT) (k : Nat) (f : Addr) (fd : FuncData) (ps : List Str) (sp : Sp) : Prop where
  many : ∀ vs H Q E, sp vs H Q E → vs.length = ps.length
  goes : ∀ (A : Around) (out : List Env) (s : Shared) (H : Hp) (args : Args) (us : List Value) (vs : List V)
    (Q : VK) (E : XK), A.guards = some [] → Room k A → Env0 P w K mg base A out s H →
    BindsTo s fd args (ps.zip us) → Vals vs us → sp vs H Q E →
    codeAny (model P w) A (.call (.ref f) args) (CR CX out P w H s Q E) s

theorem GOk.of {P : Program} {w : World} {K : PySem.W.Frag} {mg : Str → Option Value} {base : Heap}
    {CX : CXT} {k : Nat} {f : Addr} {fd : FuncData} {ps : List Str} {sp : Sp}
    (F : FnOk P w K mg base CX k f fd ps sp) : GOk P w K mg base CX k f fd ps sp where
  many := F.len
  goes := fun A out s H args us vs Q E _ a b c d e => F.run A out s H args us vs Q E a b c d e

/-- by the body -/
theorem gok_of {P : Program} {w : World} {K : PySem.W.Frag} {mg : Str → Option Value} {base : Heap}
    {x qual : Str} {st : Stmt} {f : Addr} {fd : FuncData} {N ps : List Str} {k : Nat} {sp : Sp}
    (F : Fun K x qual st f fd) (S : FnScope N ps (defScope st))
    (many : ∀ vs H Q E, sp vs H Q E → vs.length = ps.length)
    (body : ∀ (cdv : Value) (A : Around) (out : List Env) (s : Shared) (H : Hp) (vs : List V) (Q : VK) (E : XK),
      A.guards = some [] → Room k (A.deeper (envOfC qual (defScope st) s.heap.objs.size f cdv)) → sp vs H Q E →
      ∃ t, PSs (cxOf CX0 P w K mg base N qual (defScope st) f cdv A out s H E).nox (defBody st) t ∧
        t { nx := fun _ H' => Q .non H', rt := Q } (start N vs) H) :
    GOk P w K mg base CX0 (k + 1) f fd ps sp := by
  obtain ⟨oc, od, kV, doc, pm, an, cdv, ct, osl, rfl, lk, hcd⟩ := F.ex
  constructor
  · exact many
  intro A out s H args us vs Q E gd rm en bt rl pr
  have up : ∀ b o, base.get? b = some o → s.heap.get? b = some o := fun b o e => (en.bs b o e).1
  have kin := en.mod.kin.keeps up
  have lim := en.mod.nolimit.keeps up
  refine codeAny_call_function rm.depth (kin _ _ lk) rfl S.co S.gen rfl
    (PySem.W.codeRec_of kin hcd) (bt _ _ _ _ (wpAny_newFunctionEnv_cells S.kind ?par ?walk))
  case par =>
    rintro ⟨n, v⟩ hy
    cases S.par n (List.of_mem_zip hy).1 with
    | inl q => exact .inl q
    | inr q => exact .inr ⟨q, PySem.W.cellsFrom_some _ _ _ (.inl q)⟩
  case walk =>
    intro env he s1 ic
    subst he
    refine ⟨lim.keeps ic.toInCall.keep, codeAny_func ?_⟩
    obtain ⟨t, ht, hq⟩ := body cdv A out s H vs Q E gd (rm.deeper _) pr
    have J := inv_start (CX := CX0) (P := P) (w := w) (K := K) (mg := mg) (base := base) (E := E) S rm.hd en (many _ _ _ _ pr) rl ic
    refine wpAny_mono (ht.nox.run [] s1 (start N vs) H _ J hq) ?_ (fun _ _ z => z)
    intro fl s' hs
    cases fl with
    | ret u => obtain ⟨v, σ', H', J', rv, q⟩ := hs; exact ⟨v, H', J'.os, J'.bare, J'.base, J'.hok, rv, q⟩
    | next => obtain ⟨σ', H', J', q⟩ := hs; exact ⟨.non, H', J'.os, J'.bare, J'.base, J'.hok, rfl, q⟩
    | brk => obtain ⟨_, _, _, q⟩ := hs; exact q.elim
    | cont => obtain ⟨_, _, _, q⟩ := hs; exact q.elim

/-- the state ahead of the law's call, with H tracked: at most the script, which is none of the written things -/
theorem env_of {P : Program} {w : World} {K : PySem.W.Frag} {mg mb : Str → Option Value} {s : Shared} {a : Addr} {vs : List Value} {H : Hp}
    (KX : K.In s.heap) (hg : s.heap.Ns mainGlobals mg) (hb : s.heap.Ns builtinsNs mb)
    (hbb : ∀ x : Str, x ≠ "__name__" → mb x = bootBuiltins x) (hlim : s.heap.NoLimit) (hgen : s.gens = #[])
    (ha : s.heap.get? a = some { cls := .type "list", data := .seq vs.toArray })
    (only : ∀ b, H b ≠ none → b = a ∧ K.lookup b = none) (hok : HOk P w H s.heap) :
    Env0 P w K mg (hidT s.heap H) callerA [] s H ∧ (∀ b m, s.heap.Ns b m → (hidT s.heap H).Ns b m) ∧ K.In (hidT s.heap H) := by
  have clear : ∀ b o, s.heap.get? b = some o → (∀ es ep, o.data ≠ .dict es ep) ∨ H b = none := by
    intro b o e
    by_cases q : H b = none
    · exact .inr q
    · obtain ⟨rfl, _⟩ := only b q
      rw [ha] at e
      cases e
      exact .inl fun es ep z => by cases z
  have ns : ∀ b m, s.heap.Ns b m → (hidT s.heap H).Ns b m := by
    rintro b m ⟨o, es, ep, e, d, r⟩
    rcases clear b o e with z | z
    · exact absurd d (z es ep)
    · exact ⟨o, es, ep, hidT_get e z, d, r⟩
  have kin : K.In (hidT s.heap H) := by
    intro b o e
    refine hidT_get (KX b o e) ?_
    by_cases q : H b = none
    · exact q
    · rw [(only b q).2] at e
      cases e
  refine ⟨⟨rfl, ⟨kin, ns _ _ hg, ⟨mb, ns _ _ hb, hbb⟩, ?_⟩, fun b o e => of_hidT e, Nat.le_of_eq (hidT_size _ _), trivial, ?_, hok, .of_eq hgen⟩, ns, kin⟩
  · obtain ⟨mc, h1, h2⟩ := hlim
    exact ⟨mc, ns _ _ h1, h2⟩
  · intro b hb
    cases hb

theorem run_law {P : Program} {w : World} {K : PySem.W.Frag} {mg mb : Str → Option Value} {k : Nat} {fa a : Addr} {fd : FuncData} {x : Str} {sp : Sp} {s : Shared} {vs : List Value} {ns : List Int}
    (KX : K.In s.heap) (hg : s.heap.Ns mainGlobals mg) (hb : s.heap.Ns builtinsNs mb) (hm : ∃ mm, s.heap.Ns sysModules mm)
    (hbb : ∀ x : Str, x ≠ "__name__" → mb x = bootBuiltins x) (hlim : s.heap.NoLimit) (hgen : s.gens = #[])
    (ha : s.heap.get? a = some { cls := .type "list", data := .seq vs.toArray }) (hi : IntsAre vs ns) (hl : ns.length ≤ sizeLine) (hr : Room k callerA)
    (F : ∀ base : Heap, K.In base → base.Ns mainGlobals mg → (∃ mm, base.Ns sysModules mm) → GOk P w K mg base CX0 k fa fd [x] sp)
    (bind : ∀ (s : Shared) (u : Value), BindsTo s fd ⟨[u], []⟩ [(x, u)])
    (hsp : ∀ H : Hp, Only H → SqL K H a (ns.map V.int) → sp [.ref a] H (fun v _ => v = .bl true) fun _ _ _ => False) :
    codeAny (model P w) callerA (.call (.ref fa) ⟨[.ref a], []⟩)
      (fun r s' => r = .ok (.ret (.bool true)) ∧ OldK s.heap s'.heap ∧ s'.os = s.os ∧ AllBare s'.gens) s := by
  have rv := vals_ints hi
  have all : ∀ H : Hp, Only H → SqL K H a (ns.map V.int) → HOk P w H s.heap → (∀ b, H b ≠ none → b = a ∧ K.lookup b = none) →
      codeAny (model P w) callerA (.call (.ref fa) ⟨[.ref a], []⟩)
        (fun r s' => r = .ok (.ret (.bool true)) ∧ OldK s.heap s'.heap ∧ s'.os = s.os ∧ AllBare s'.gens) s := by
    intro H on sq hok only
    obtain ⟨en, nsk, kin⟩ := env_of KX hg hb hbb hlim hgen ha only hok
    have sm : ∃ mm, (hidT s.heap H).Ns sysModules mm := by
      obtain ⟨mm, q⟩ := hm
      exact ⟨mm, nsk _ _ q⟩
    refine codeAny_mono ((F _ kin (nsk _ _ hg) sm).goes callerA [] s H ⟨[.ref a], []⟩ [.ref a] [.ref a] _ _ rfl hr en (bind s (.ref a)) (.cons rfl .nil) (hsp H on sq)) ?_
    intro r s' h
    match r, h with
    | .error e, h => exact False.elim h
    | .ok (.ret u), h =>
      obtain ⟨v, H', os, bare, un, hok', ru, q⟩ := h
      have q' : v = .bl true := q
      subst q'
      cases (show u = Value.bool true from ru)
      refine ⟨rfl, OldK.of_keep fun b o e => ?_, os, bare⟩
      by_cases q : H b = none
      · exact un.keep b o e q (fun z => nomatch z) (fun z => nomatch z)
      · rcases on b with z | ⟨ob, xs, z⟩
        · exact absurd z q
        · have e1 := (hok b _ z).1
          have e2 := (hok' b _ (un.frzs b ob _ z)).1
          rw [e1] at e
          rw [e2]
          exact e
    | .ok .next, h => exact False.elim h
    | .ok .brk, h => exact False.elim h
    | .ok .cont, h => exact False.elim h
  cases hk : K.lookup a with
  | some o =>
    have e := KX a o hk
    rw [ha] at e
    cases e
    exact all (fun _ => none) (fun _ => .inl rfl)
      (.inr ⟨_, vs.toArray, _, hk, rfl, rfl, rfl, by rw [List.size_toArray, hi.length]; exact hl, by simpa using rv⟩)
      (fun b u z => by cases z) (fun b z => absurd rfl z)
  | none =>
    have at_ : ∀ b : Addr, b ≠ a → (fun b : Addr => if b = a then some (HO.frz { cls := .type "list", data := .seq vs.toArray } (.lst (ns.map V.int))) else none) b = none := fun b hb => if_neg hb
    refine all (fun b => if b = a then some (.frz { cls := .type "list", data := .seq vs.toArray } (.lst (ns.map V.int))) else none) ?_ ?_ ?_ ?_
    · intro b
      by_cases hb : b = a
      · exact .inr ⟨_, _, if_pos hb⟩
      · exact .inl (at_ b hb)
    · exact .inl (.inr ⟨{ cls := .type "list", data := .seq vs.toArray }, if_pos rfl⟩)
    · intro b u z
      dsimp only at z
      by_cases hb : b = a
      · subst hb
        rw [if_pos rfl] at z
        cases z
        exact ⟨ha, by rw [List.length_map]; exact hl, vs, _, rv, ha⟩
      · rw [if_neg hb] at z
        cases z
    · intro b z
      by_cases hb : b = a
      · exact ⟨hb, by rw [hb]; exact hk⟩
      · exact absurd (at_ b hb) z

/-- the end of a law whose def reprs; the script's bits told -/
theorem walk_G {l : PySem.W.OpenLaw} {n k : Nat} {q : Program} {loose : List Str} {XP : (Str → Option Value) → Heap → Prop} {YP : World → Heap → Prop} {d : DefRec} {K : Params → PySem.W.Frag} {sp : World → Sp} {x : Str}
    (hn : l.most = some n) (hn2 : n ≤ sizeLine) (hdf : d.params.defaults = []) (hi : importsNone q = true) (hr : Room k callerA)
    (hY : ∀ (w : World) (h : Heap), YP w h → (K w.params).In h)
    (F : ∀ (w : World) (mg : Str → Option Value) (fa : Addr) (h : Heap), (K w.params).In h → h.Ns mainGlobals mg → mg d.name = some (.ref fa) →
      ∃ fd : FuncData, (∀ (s : Shared) (u : Value), BindsTo s fd ⟨[u], []⟩ [(x, u)]) ∧
        ∀ base : Heap, (K w.params).In base → base.Ns mainGlobals mg → (∃ mm, base.Ns sysModules mm) → GOk l.prog w (K w.params) mg base CX0 k fa fd [x] (sp w))
    (hsp : ∀ (w : World) (H : Hp) (a : Addr) (ns : List Int), ns.length ≤ n → (∀ z ∈ ns, Builtin.Int.intBits z ≤ 1048576) → Only H → SqL (K w.params) H a (ns.map V.int) → sp w [.ref a] H (fun v _ => v = .bl true) fun _ _ _ => False) :
    PySem.W.WalkO q loose XP YP l.row.toRowW d [] (fun f vs => PySem.call f vs) := by
  refine Att.attach_callB hn hdf ?_
  intro w s₀ s₁ mg mb fa o pm cd doc a vs ns G Y ho hd hcd hmg hobj hints hlen hbits hg
  have KX := hY w _ Y
  obtain ⟨fd, bnd, hF⟩ := F w mg fa _ KX G.T.g hmg
  have sm : ∃ mm, s₁.heap.Ns sysModules mm := by
    obtain ⟨mm, z, _⟩ := (G.T.seer hi).mods
    exact ⟨mm, z⟩
  exact run_law KX G.T.g G.T.b sm G.T.builtins G.T.nolimit hg hobj hints (Nat.le_trans hlen hn2) hr hF bnd fun H on sq => hsp w H a ns hlen hbits on sq
end LL

set_option Elab.async false
set_option linter.all false
set_option maxRecDepth 100000
set_option maxHeartbeats 2000000
/-! data that may hold dicts; repr of them; literals -/
namespace LL
open PySem PySem.Spec PyProof.Rows L2

def kD : Key → PyData
  | .inl i => .int i
  | .inr x => .str x
mutual
inductive Dq (K : PySem.W.Frag) (H : Hp) : V → PyData → Prop
  | non : Dq K H .non .none
  | bl (b : Bool) : Dq K H (.bl b) (.bool b)
  | int (i : Int) : Dq K H (.int i) (.int i)
  | str (x : Str) : Dq K H (.str x) (.str x)
  | lst {a : Addr} {xs : List V} {ds : List PyData} (h : SqL K H a xs) (r : DqAll K H xs ds) : Dq K H (.ref a) (.list ds)
  | tup {a : Addr} {xs : List V} {ds : List PyData} (h : SqT K H a xs) (r : DqAll K H xs ds) : Dq K H (.ref a) (.tuple ds)
  | dct {a : Addr} {kvs : List (Key × V)} {ds : List PyData} (h : H a = some (.dK kvs)) (r : DqAll K H (kvs.map (·.2)) ds) : Dq K H (.ref a) (.dict ((kvs.map fun p => kD p.1).zip ds))
inductive DqAll (K : PySem.W.Frag) (H : Hp) : List V → List PyData → Prop
  | nil : DqAll K H [] []
  | cons {v : V} {vs : List V} {d : PyData} {ds : List PyData} (h : Dq K H v d) (r : DqAll K H vs ds) : DqAll K H (v :: vs) (d :: ds)
end

theorem DqAll.length {K : PySem.W.Frag} {H : Hp} : ∀ {vs : List V} {ds : List PyData}, DqAll K H vs ds → vs.length = ds.length
  | _, _, .nil => rfl
  | _, _, .cons _ r => by rw [List.length_cons, List.length_cons, DqAll.length r]
theorem DqAll.get {K : PySem.W.Frag} {H : Hp} : ∀ {vs : List V} {ds : List PyData} {i : Nat} {v : V}, DqAll K H vs ds → vs[i]? = some v → ∃ d, ds[i]? = some d ∧ Dq K H v d
  | _, _, 0, _, .cons h _, e => by cases e; exact ⟨_, rfl, h⟩
  | _, _, i + 1, v, .cons _ r, e => DqAll.get (i := i) r e
theorem DqAll.append {K : PySem.W.Frag} {H : Hp} : ∀ {vs ws : List V} {ds es : List PyData}, DqAll K H vs ds → DqAll K H ws es → DqAll K H (vs ++ ws) (ds ++ es)
  | _, _, _, _, .nil, s => s
  | _, _, _, _, .cons h r, s => .cons h (DqAll.append r s)

theorem Same.seqT {K : PySem.W.Frag} {H H' : Hp} {a : Addr} {xs : List V} (e : Same H H') (h : SqT K H a xs) : SqT K H' a xs := by
  rcases h with (h | ⟨o, h⟩) | h
  · exact .inl (.inl (e _ _ h))
  · exact .inl (.inr ⟨o, e _ _ h⟩)
  · exact .inr h
mutual
theorem Dq.up {K : PySem.W.Frag} {H H' : Hp} (e : Same H H') : ∀ {v : V} {d : PyData}, Dq K H v d → Dq K H' v d
  | _, _, .non => .non
  | _, _, .bl b => .bl b
  | _, _, .int i => .int i
  | _, _, .str x => .str x
  | _, _, .lst h r => .lst (e.seq h) (DqAll.up e r)
  | _, _, .tup h r => .tup (Same.seqT e h) (DqAll.up e r)
  | _, _, .dct h r => .dct (e _ _ h) (DqAll.up e r)
theorem DqAll.up {K : PySem.W.Frag} {H H' : Hp} (e : Same H H') : ∀ {v : List V} {d : List PyData}, DqAll K H v d → DqAll K H' v d
  | _, _, .nil => .nil
  | _, _, .cons h r => .cons (Dq.up e h) (DqAll.up e r)
end

section
variable {X : Cx} {pins : List (Addr × Obj)} {σ : L2.St} {H : Hp} {s : Shared}
theorem keys_read {h : Heap} {P : Program} {w : World} : ∀ {es : List DictEntry} {kvs : List (Key × V)} {vs : List (Key × Value)}, Pairs (mixKind P w) es vs → KV kvs vs → ReadsAll h (es.map (·.key)) (kvs.map fun p => kD p.1) []
  | _, _, _, .nil, r => by cases r; exact .nil
  | _, _, _, .cons (e := e) (kv := kv) hk hv q, r => by
    cases r with
    | cons r1 r2 =>
      rename_i p ps
      have t := keys_read (h := h) q r2
      have one : Reads h e.key (kD p.1) [] := by
        rw [r1.1]
        rcases keyIs_shape (show keyIs kv.1 e.key = true from hk) with ⟨i, u, z1, z2⟩ | ⟨x, u, z1, z2⟩
        · rw [z1, z2]; exact .int i u
        · rw [z1, z2]; exact .str x u
      exact ReadsAll.cons one t
theorem vals_of {P : Program} {w : World} : ∀ {es : List DictEntry} {kvs : List (Key × V)} {vs : List (Key × Value)}, Pairs (mixKind P w) es vs → KV kvs vs → Vals (kvs.map (·.2)) (es.map (·.val))
  | _, _, _, .nil, r => by cases r; exact .nil
  | _, _, _, .cons (e := e) (kv := kv) hk hv q, r => by
    cases r with
    | cons r1 r2 => exact .cons (by show RelV _ e.val; rw [hv]; exact r1.2) (vals_of q r2)
mutual
theorem Dq.reads (I : Inv X pins σ H s) (sm : ∃ mm, s.heap.Ns sysModules mm) : ∀ {v : V} {d : PyData} {u : Value}, Dq X.K H v d → RelV v u → ∃ as, Reads s.heap u d as ∧ sysModules ∉ as
  | _, _, _, .non, r => by cases r; exact ⟨_, .none, by simp⟩
  | _, _, _, .bl b, r => by cases r; exact ⟨_, .bool b, by simp⟩
  | _, _, _, .int i, r => by obtain ⟨t, rfl⟩ := r; exact ⟨_, .int i t, by simp⟩
  | _, _, _, .str x, r => by obtain ⟨t, rfl⟩ := r; exact ⟨_, .str x t, by simp⟩
  | _, _, _, .lst h q, r => by
    cases r
    obtain ⟨its, rv, ⟨o, n, ho, hc, _, hd⟩, _⟩ := I.list h
    obtain ⟨as, hr, na⟩ := DqAll.reads I sm q rv
    refine ⟨_, Reads.list ho hc hd hr, ?_⟩
    rw [List.mem_cons]
    rintro (z | z)
    · obtain ⟨mm, o', es, ep, e, d, _⟩ := sm
      rw [z, ho] at e
      cases e
      rw [hd] at d
      cases d
    · exact na z
  | _, _, _, .tup h q, r => by
    cases r
    obtain ⟨its, rv, ⟨o, ho, hc, n, hd⟩, _⟩ := I.tuple h
    obtain ⟨as, hr, na⟩ := DqAll.reads I sm q rv
    exact ⟨_, Reads.tuple ho hc hd hr, na⟩
  | _, _, _, .dct (kvs := kvs) (ds := ds) h q, r => by
    cases r
    obtain ⟨_, ns, vs, kv, o, es, ep, ho, hx, hd, _, pr, _⟩ := I.hok _ _ h
    obtain ⟨as, hr, na⟩ := DqAll.reads I sm q (vals_of pr kv)
    have hl : (kvs.map fun p => kD p.1).length = ds.length := by
      have z := q.length
      rw [List.length_map] at z ⊢
      exact z
    refine ⟨_, Reads.dict ho hx.1 hd (as := []) (bs := as) ?_ ?_, ?_⟩
    · rw [List.map_fst_zip (Nat.le_of_eq hl)]
      exact keys_read pr kv
    · rw [List.map_snd_zip (Nat.le_of_eq hl.symm)]
      exact hr
    · rw [List.cons_append, List.nil_append, List.mem_cons]
      rintro (z | z)
      · rw [← z] at ns
        simp at ns
      · exact na z
theorem DqAll.reads (I : Inv X pins σ H s) (sm : ∃ mm, s.heap.Ns sysModules mm) : ∀ {v : List V} {d : List PyData} {u : List Value}, DqAll X.K H v d → Vals v u → ∃ as, ReadsAll s.heap u d as ∧ sysModules ∉ as
  | _, _, _, .nil, r => by cases r; exact ⟨_, .nil, by simp⟩
  | _, _, _, .cons h q, r => by
    cases r with
    | cons r1 r2 =>
      obtain ⟨as, z1, n1⟩ := Dq.reads I sm h r1
      obtain ⟨bs, z2, n2⟩ := DqAll.reads I sm q r2
      refine ⟨_, ReadsAll.cons z1 z2, ?_⟩
      rw [List.mem_append]
      rintro (z | z)
      · exact n1 z
      · exact n2 z
end
/-- repr(v) of such data -/
def rRepr (K : PySem.W.Frag) : List V → Hp → VK → Prop := fun xs H Q => ∃ (v : V) (d : PyData), xs = [v] ∧ Dq K H v d ∧ d.showable = true ∧ d.depth ≤ 60 ∧ d.shown.length ≤ sizeLine ∧ Q (.str d.shown) H
theorem call_repr (hg : X.A.guards = some []) (hu : X.A.units + 64 < cLine) (sm : ∃ mm, X.base.Ns sysModules mm) : CallR X (.builtin "repr") (rRepr X.K) := by
  intro pins s σ H xs us Q I r h
  obtain ⟨v, d, rfl, hd, hs, hz, hl, q⟩ := h
  obtain ⟨u, rfl, ru⟩ := vals1 r
  have sm' : ∃ mm, s.heap.Ns sysModules mm := by
    obtain ⟨mm, z⟩ := sm
    exact ⟨mm, z.keeps I.bk⟩
  cases hd with
  | non =>
    cases ru
    rw [PyData.shown_none] at q
    exact PySem.P.repr_of_none ⟨.str _, H, I.tok _, ⟨_, rfl⟩, q⟩
  | bl b =>
    cases ru
    rw [PyData.shown_bool] at q
    exact PySem.P.repr_of_bool ⟨.str _, H, I.tok _, ⟨_, rfl⟩, q⟩
  | int i =>
    obtain ⟨t, rfl⟩ := ru
    rw [PyData.shown_int] at q
    exact PySem.P.repr_of_int (by simpa [PyData.showable] using hs) ⟨.str _, H, I.tok _, ⟨_, rfl⟩, q⟩
  | str x =>
    obtain ⟨t, rfl⟩ := ru
    rw [PyData.shown_str] at q hl
    exact PySem.P.repr_of_str ⟨.str _, H, I.tok _, ⟨_, rfl⟩, q⟩ hl
  | lst a b =>
    obtain ⟨as, rd, na⟩ := Dq.reads I sm' (.lst a b) ru
    cases ru
    exact repr_of_reads' rd hs (fun _ => na) hg (by omega) (fun _ _ e => e) (fun h' u tk hk => ⟨.str _, H, I.kept hk, ⟨u, rfl⟩, q⟩) hl
  | tup a b =>
    obtain ⟨as, rd, na⟩ := Dq.reads I sm' (.tup a b) ru
    cases ru
    exact repr_of_reads' rd hs (fun _ => na) hg (by omega) (fun _ _ e => e) (fun h' u tk hk => ⟨.str _, H, I.kept hk, ⟨u, rfl⟩, q⟩) hl
  | dct a b =>
    obtain ⟨as, rd, na⟩ := Dq.reads I sm' (.dct a b) ru
    cases ru
    exact repr_of_reads' rd hs (fun _ => na) hg (by omega) (fun _ _ e => e) (fun h' u tk hk => ⟨.str _, H, I.kept hk, ⟨u, rfl⟩, q⟩) hl
end
end LL

set_option Elab.async false
set_option linter.all false
set_option maxRecDepth 100000
set_option maxHeartbeats 2000000
/-! literals: what they are as data, apart from each thing that stood before -/
namespace LL
open PySem PySem.Spec PyProof.Rows L2

/-- the tracked heap without b -/
def wo (H : Hp) (b : Addr) : Hp := fun c => if c = b then none else H c
theorem wo_ne {H : Hp} {b c : Addr} (h : c ≠ b) : wo H b c = H c := if_neg h
theorem wo_self {H : Hp} {b : Addr} : wo H b b = none := if_pos rfl
theorem wo_same {H : Hp} {b : Addr} : Same (wo H b) H := fun c o e => by
  by_cases h : c = b
  · rw [h, wo_self] at e; cases e
  · rwa [wo_ne h] at e
theorem wo_up {H H' : Hp} {b : Addr} (s : Same H H') : Same (wo H b) (wo H' b) := fun c o e => by
  by_cases h : c = b
  · rw [h, wo_self] at e; cases e
  · rw [wo_ne h] at e ⊢; exact s c o e
theorem wo_at {H : Hp} {b c : Addr} {o : HO} (h : H c = some o) (n : c ≠ b) : wo H b c = some o := by rw [wo_ne n]; exact h
/-- all but b is as it was -/
def But (b : Addr) (H H' : Hp) : Prop := ∀ c o, c ≠ b → H c = some o → H' c = some o
theorem But.wo {b : Addr} {H H' : Hp} (s : But b H H') : Same (wo H b) (wo H' b) := fun c o e => by
  by_cases h : c = b
  · rw [h, wo_self] at e; cases e
  · rw [wo_ne h] at e ⊢; exact s c o h e
theorem But.of {b : Addr} {H H' : Hp} (s : Same H H') : But b H H' := fun c o _ e => s c o e
theorem But.trans {b : Addr} {H H1 H2 : Hp} (s : But b H H1) (t : But b H1 H2) : But b H H2 := fun c o n e => t c o n (s c o n e)
theorem But.upd {b : Addr} {H : Hp} {o : HO} : But b H (upd H b o) := fun c u n e => by rw [upd_ne n]; exact e
theorem same_new {H : Hp} {p : Addr} {o : HO} (h : H p = none) : Same H (upd H p o) := fun c u e => by
  rw [upd_ne (ne_of_none e h)]; exact e

/-- v is d at H', and shares nothing that can change with what stood at H -/
structure Fresh (K : PySem.W.Frag) (H H' : Hp) (v : V) (d : PyData) : Prop where
  dat : Dq K H' v d
  sep : ∀ b, H b ≠ none → Dq K (wo H' b) v d
structure FreshAll (K : PySem.W.Frag) (H H' : Hp) (vs : List V) (ds : List PyData) : Prop where
  dat : DqAll K H' vs ds
  sep : ∀ b, H b ≠ none → DqAll K (wo H' b) vs ds
def tLit (K : PySem.W.Frag) (d : PyData) : TE := fun σ H Q => ∀ v H', Same H H' → Fresh K H H' v d → Q v H'
/-- a written list, with its place -/
def tLitL (K : PySem.W.Frag) (ds : List PyData) : TE := fun σ H Q => ∀ p vs H', Same H H' → H p = none → H' p = some (.lst vs) → FreshAll K H H' vs ds → Q (.ref p) H'
def tLits (K : PySem.W.Frag) (ds : List PyData) : TA := fun σ H Q => ∀ vs H', Same H H' → FreshAll K H H' vs ds → Q vs H'
section
variable {X : Cx} {e : Expr} {es : List Expr} {d : PyData} {ds : List PyData} {pos : Pos}
theorem imp {t t' : TE} (h : PE X e t) (w : ∀ σ H Q, t' σ H Q → t σ H Q) : PE X e t' := ⟨fun pins s σ H Q I q => h.run pins s σ H Q I (w σ H Q q)⟩
theorem impA {t t' : TA} (h : PA X es t) (w : ∀ σ H Q, t' σ H Q → t σ H Q) : PA X es t' := ⟨fun pos pins s σ H Q I q => h.run pos pins s σ H Q I (w σ H Q q)⟩
theorem lit_non {j : Nat} : PE X (.Constant .none j pos) (tLit X.K .none) := imp pe_non fun σ H Q q => q _ _ (Same.refl _) ⟨.non, fun _ _ => .non⟩
theorem lit_bl {b : Bool} {j : Nat} : PE X (.Constant (.bool b) j pos) (tLit X.K (.bool b)) := imp pe_bl fun σ H Q q => q _ _ (Same.refl _) ⟨.bl _, fun _ _ => .bl _⟩
theorem lit_int {i : Int} {j : Nat} : PE X (.Constant (.int i) j pos) (tLit X.K (.int i)) := imp pe_int fun σ H Q q => q _ _ (Same.refl _) ⟨.int _, fun _ _ => .int _⟩
theorem lit_str {x : Str} {j : Nat} : PE X (.Constant (.str x) j pos) (tLit X.K (.str x)) := imp pe_str fun σ H Q q => q _ _ (Same.refl _) ⟨.str _, fun _ _ => .str _⟩
theorem lit_neg {i : Int} {e : Expr} (h : PE X e (tLit X.K (.int i))) : PE X (.UnaryOp .USub e pos) (tLit X.K (.int (-i))) :=
  imp (pe_un un_neg h) fun σ H Q q v H' s f => by
    cases f.dat
    exact ⟨i, rfl, q _ _ s ⟨.int _, fun _ _ => .int _⟩⟩
theorem lit_pow {i n : Int} {j j' : Nat} {p p' : Pos} (hi : i.natAbs < 2 ^ 64 := by decide) (h0 : 0 ≤ n := by decide) (hn : n ≤ 1000000 := by decide) : PE X (.BinOp (.Constant (.int i) j p) .Pow (.Constant (.int n) j' p') pos) (tLit X.K (.int (i ^ n.toNat))) :=
  imp (pe_op op_pow pe_int pe_int) fun σ H Q q => ⟨i, n, rfl, rfl, ⟨h0, hn, hi⟩, q _ _ (Same.refl _) ⟨.int _, fun _ _ => .int _⟩⟩
theorem lits_nil : PA X [] (tLits X.K []) := impA pa_nil fun σ H Q q => q _ _ (Same.refl _) ⟨.nil, fun _ _ => .nil⟩
theorem lits_cons (h : PE X e (tLit X.K d)) (r : PA X es (tLits X.K ds)) (hs : starEach (e :: es) X.env = (false, eval e X.env) :: starEach es X.env := by rfl) : PA X (e :: es) (tLits X.K (d :: ds)) :=
  impA (pa_cons h r hs) fun σ H Q q v H1 s1 f1 vs H2 s2 f2 => q _ _ (s1.trans s2) ⟨.cons (f1.dat.up s2) f2.dat, fun b hb => .cons ((f1.sep b hb).up (wo_up s2)) (f2.sep b fun z => hb (s1.free z))⟩
theorem lit_tup {k : Nat} (h : PA X es (tLits X.K ds)) (hl : ds.length ≤ 1000 := by decide) : PE X (.Tuple es k pos) (tLit X.K (.tuple ds)) :=
  imp (pe_tup h) fun σ H Q q vs H1 s1 f1 => ⟨by rw [f1.dat.length]; exact Nat.le_of_lt (small1000 hl), fun p np => q _ _ (s1.trans (same_new np))
    ⟨.tup (.inl (.inl upd_same)) (f1.dat.up (same_new np)), fun b hb => .tup (.inl (.inl (wo_at upd_same fun z => hb (s1.free (by rw [← z]; exact np))))) ((f1.sep b hb).up (wo_up (same_new np)))⟩⟩
theorem lit_lst (h : PA X es (tLits X.K ds)) (hl : ds.length ≤ 1000 := by decide) : PE X (.List es pos) (tLit X.K (.list ds)) :=
  imp (pe_lst h) fun σ H Q q vs H1 s1 f1 => ⟨by rw [f1.dat.length]; exact Nat.le_of_lt (small1000 hl), fun p np => q _ _ (s1.trans (same_new np))
    ⟨.lst (.inl (.inl upd_same)) (f1.dat.up (same_new np)), fun b hb => .lst (.inl (.inl (wo_at upd_same fun z => hb (s1.free (by rw [← z]; exact np))))) ((f1.sep b hb).up (wo_up (same_new np)))⟩⟩
theorem lit_lstT (h : PA X es (tLits X.K ds)) (hl : ds.length ≤ 1000 := by decide) : PE X (.List es pos) (tLitL X.K ds) :=
  imp (pe_lst h) fun σ H Q q vs H1 s1 f1 => ⟨by rw [f1.dat.length]; exact Nat.le_of_lt (small1000 hl), fun p np => q p vs _ (s1.trans (same_new np)) (s1.free np) upd_same
    ⟨f1.dat.up (same_new np), fun b hb => (f1.sep b hb).up (wo_up (same_new np))⟩⟩
theorem lit_d0 : PE X (.Dict [] [] pos) (tLit X.K (.dict [])) :=
  imp pe_dnewK fun σ H Q q p np => q _ _ (same_new np)
    ⟨.dct (kvs := []) (ds := []) upd_same .nil, fun b hb => .dct (kvs := []) (ds := []) (wo_at upd_same fun z => hb (by rw [← z]; exact np)) .nil⟩
/-- {x: e}, x a written text, e written and flat -/
theorem lit_d1 {x : Str} {i : Int} {j j' : Nat} {p p' : Pos} : PE X (.Dict [some (.Constant (.str x) j p)] [.Constant (.int i) j' p'] pos) (tLit X.K (.dict [(.str x, .int i)])) :=
  imp (pe_disp (pps_cons pe_str pe_int pps_nil) (by rfl) (by rfl) (fun z => by cases z) (by show 1 ≤ 15; decide)) fun σ H Q q p np =>
    ⟨upd_same, [(.inr x, .int i)], rfl, by show 1 ≤ 15; decide, by
      rw [upd_upd]
      refine q _ _ (same_new np) ⟨.dct (kvs := [(.inr x, .int i)]) (ds := [.int i]) upd_same (.cons (.int i) .nil), fun b hb => .dct (kvs := [(.inr x, .int i)]) (ds := [.int i]) (wo_at upd_same fun z => hb (by rw [← z]; exact np)) (.cons (.int i) .nil)⟩⟩
end
theorem wo_upd {H : Hp} {b : Addr} {o : HO} : wo (upd H b o) b = wo H b := by
  funext c
  by_cases h : c = b
  · rw [h, wo_self, wo_self]
  · rw [wo_ne h, wo_ne h, upd_ne h]
theorem DqAll.mem {K : PySem.W.Frag} {H : Hp} {v : V} : ∀ {vs : List V} {ds : List PyData}, DqAll K H vs ds → v ∈ vs → ∃ d, d ∈ ds ∧ Dq K H v d
  | _, _, .nil, h => by cases h
  | _, _, .cons q r, h => by
    rcases List.mem_cons.mp h with rfl | h
    · exact ⟨_, List.mem_cons_self, q⟩
    · obtain ⟨d, m, z⟩ := DqAll.mem r h
      exact ⟨d, List.mem_cons_of_mem _ m, z⟩
end LL

set_option Elab.async false
set_option linter.all false
set_option maxRecDepth 100000
set_option maxHeartbeats 4000000
/-! own errors as values: made by their __init__, over any built-in base -/
namespace LL
open PySem PySem.W PySem.Calls PyProof.Rows Builtin Builtin.ObjectAttr

/-- what the written part says of an error's class -/
structure ExT (K : Frag) (C : Addr) (bmB : List Value) (newId : String) : Prop where
  own : excInitIn K C bmB newId = true
  over : excOver K C bmB = true
  sa : findIn K (.ref C) "__setattr__" = some (some (.builtin "object.__setattr__"))
  hd : hasDictIn K C = true
  ga : findIn K (.ref C) "__getattribute__" = some (some (.builtin "BaseException.__getattribute__"))
  gg : findIn K (.ref C) "__getattr__" = some none
  sub : subIn K (.ref C) (.type "BaseException") = some true
  kp : keepIn K (.ref C) = true

section
variable {prog : Program} {w : World} {A : Around} {E : Value → Shared → Prop} {R : Result → Shared → Prop} {K : Frag} {C x : Addr} {B newId initId : String} {bmB : List Value}
  {hp : Heap} {g : Array GenState} {d : Drawn} {t : Nat} {os : OsState}

theorem no_taker {n : Str} (h : findIn K (.ref C) n = some none) : takerIn K C n = some none := by
  unfold takerIn
  rw [h]
  rfl

/-- the first field: the dict is laid -/
theorem put_first {n : Str} {tk : Tok} {v : Value} {t0 : Addr} (SF : StoreFacts B bmB "object.__setattr__" "object") (T : ExT K C bmB newId) (no : findIn K (.ref C) n = some none) (X : K.In hp)
    (hx : hp.get? x = some (HandSPX.excO C t0))
    (hq : ∀ h' tk' dx, (∀ b o, b ≠ x → hp.get? b = some o → h'.get? b = some o) → hp.objs.size ≤ dx → dx ≠ x → h'.get? x = some { HandSPX.excO C t0 with dict := some dx } →
      h'.Ns1 dx (fun y => if y = n then some v else none) → R (.ok (.ret .none)) ⟨h', g, d, tk', os⟩) :
    codeAny (model prog w) A (.call (.builtin "object.__setattr__") ⟨[.ref x, .str n tk, v], []⟩) R ⟨hp, g, d, t, os⟩ := by
  have ne : x ≠ hp.objs.size := Nat.ne_of_lt (Heap.lt_size hx)
  refine osa_openX (s := ⟨hp, g, d, t, os⟩) (od := none) SF X ⟨hx, rfl, rfl, trivial⟩ T.over (no_taker no) fun b => ?_
  obtain ⟨cd, hc, hd'⟩ := any_some T.hd
  refine wpAny_bind (wpAny_pure (wpAny_bind (instanceDict_exc (t := t0) (c2 := .none) hx (looks_clsIn X hc) hd' ?_)))
  show wpAny _ _ (storeInDict hp.objs.size (.str n tk) n v) _ _ _
  refine PX.store_in_new ?_ ?_
  · exact ⟨_, #[], _, (Heap.get?_update_ne _ _ _ _ ne.symm).trans (Heap.get?_push_at rfl rfl), rfl, fun e he => absurd he (by simp), fun _ => rfl⟩
  · intro h' tk' ns sb
    refine hq h' tk' hp.objs.size (fun b o hb ho => ?_) (Nat.le_refl _) ne.symm ?_ ns
    · rw [sb.2 b (Nat.ne_of_lt (Heap.lt_size ho)), Heap.get?_update_ne _ _ _ _ hb]
      exact Heap.get?_push_of_some _ ho
    · rw [sb.2 x ne, Heap.get?_update_self _ (Heap.get?_push_of_some _ hx) rfl]

/-- a further one -/
theorem put_next {n : Str} {tk : Tok} {v : Value} {t0 dx : Addr} {m0 : Str → Option Value} {nl : List Str} (SF : StoreFacts B bmB "object.__setattr__" "object") (T : ExT K C bmB newId) (no : findIn K (.ref C) n = some none) (X : K.In hp)
    (hx : hp.get? x = some { HandSPX.excO C t0 with dict := some dx }) (hns : hp.Ns1 dx m0) (hw : Within m0 nl) (hz : nl.length ≤ 1000)
    (hq : ∀ h' tk', (∀ b o, b ≠ dx → hp.get? b = some o → h'.get? b = some o) → h'.Ns1 dx (fun y => if y = n then some v else m0 y) → R (.ok (.ret .none)) ⟨h', g, d, tk', os⟩) :
    codeAny (model prog w) A (.call (.builtin "object.__setattr__") ⟨[.ref x, .str n tk, v], []⟩) R ⟨hp, g, d, t, os⟩ := by
  obtain ⟨oD, _, _, hoD, hdD, _⟩ := hns.count hw
  refine osa_openX (s := ⟨hp, g, d, t, os⟩) (od := some oD) SF X ⟨hx, rfl, rfl, hoD⟩ T.over (no_taker no) fun b => ?_
  obtain ⟨cd, hc, hd'⟩ := any_some T.hd
  refine wpAny_bind (wpAny_pure (wpAny_bind (wpAny_bind (wpAny_loadPart hx (wpAny_bind ((looks_clsIn X hc).here ?_))))))
  rw [hd']
  refine wpAny_pure (a := some dx) ?_
  exact PX.store_in_old hns hw hz fun h' tk' ns sb => hq h' tk' (fun b o hb ho => by rw [sb.2 b hb]; exact ho) ns
end
end LL

set_option Elab.async false
set_option linter.all false
set_option maxRecDepth 100000
set_option maxHeartbeats 4000000
namespace LL
open PySem PySem.W PySem.Calls PyProof.Rows Builtin Builtin.ObjectAttr

/-- what making an error leaves -/
structure Made (h h' : Heap) (e C dx : Addr) (m : Str → Option Value) : Prop where
  keep : ∀ b o, h.get? b = some o → h'.get? b = some o
  big : h.objs.size ≤ e
  obj : ∃ t1, h'.get? e = some { HandSPX.excO C t1 with dict := some dx }
  dbig : h.objs.size ≤ dx
  ne : dx ≠ e
  ns : h'.Ns1 dx m

section
variable {prog : Program} {w : World} {A : Around} {E : Value → Shared → Prop} {R : Result → Shared → Prop} {s : Shared} {K : Frag} {C x fI : Addr} {B newId initId : String} {bmB : List Value} {n n2 : Str} {qual : Str} {st : Stmt} {fd : FuncData}

theorem ld {M : Model} {s : Shared} {name : Str} {scope : Scope} {L a : Addr} {cd : Value} {m : Str → Option Value} {y : Str} {pos : Pos} {v : Value} {Q : Value → Shared → Prop} {A : Around} {E : Value → Shared → Prop} (hn : s.heap.Ns L m) (hv : m y = some v) (h : Q v s)
    (hk : scope.kind = .function) (hl : scope.names.lookup y = some .local) (hd : (y == ("__debug__" : Str)) = false) :
    wpAny M A (eval (.Name y pos) (envOfC name scope L a cd)) Q E s := wpAny_Name (wpAny_loadName_local hk hl hn hv h) hd

theorem ns_keep {h h' : Heap} {a : Addr} {m : Str → Option Value} (y : h.Ns a m) (k : ∀ o, h.get? a = some o → h'.get? a = some o) : h'.Ns a m := by
  obtain ⟨o, es, ep, e, r⟩ := y
  exact ⟨o, es, ep, k o e, r⟩

theorem init1 (SF : StoreFacts B bmB "object.__setattr__" "object") (T : ExT K C bmB newId) (no : findIn K (.ref C) n = some none)
    (F : L2.Fun K "__init__" qual st fI fd) (Sc : L2.FnScope ["self", n] ["self", n] (L2.defScope st)) (bd : L2.Binds K fd ["self", n] [])
    (l1 : (L2.defScope st).names.lookup ("self" : Str) = some .local) (l2 : (L2.defScope st).names.lookup n = some .local) (nd : (n == ("__debug__" : Str)) = false)
    {q1 q2 q3 q4 : Pos} (hb : L2.defBody st = [.Assign [.Attribute (.Name "self" q1) n q2] (.Name n q3) q4])
    {t0 : Addr} {v : Value} (X : K.In s.heap) (lim : s.heap.NoLimit) (hx : s.heap.get? x = some (HandSPX.excO C t0)) (room : A.depth < recursionLimit)
    (hq : ∀ h' tk dx, (∀ b o, b ≠ x → s.heap.get? b = some o → h'.get? b = some o) → h'.get? x = some { HandSPX.excO C t0 with dict := some dx } → s.heap.objs.size ≤ dx → dx ≠ x →
      h'.Ns1 dx (fun y => if y = n then some v else none) → R (.ok (.ret .none)) { s with heap := h', toks := tk }) :
    codeAny (model prog w) A (.call (.ref fI) ⟨[.ref x, v], []⟩) R s := by
  obtain ⟨oc, od, kV, doc, pm, an, cdv, ct, osl, rfl, lk, hcd⟩ := F.ex
  refine codeAny_call_function room (X _ _ lk) rfl Sc.co Sc.gen rfl (codeRec_of X hcd)
    (bd s [.ref x, v] X rfl _ _ _ _ (wpAny_newFunctionEnv_cells Sc.kind ?par ?walk))
  case par =>
    rintro ⟨m, u⟩ hy
    cases Sc.par m (List.of_mem_zip hy).1 with
    | inl q => exact .inl q
    | inr q => exact .inr ⟨q, cellsFrom_some _ _ _ (.inl q)⟩
  case walk =>
    intro env he s1 ic
    subst he
    obtain ⟨h1, tk1, rfl, k⟩ := ic.done
    refine ⟨lim.keeps k, codeAny_func ?_⟩
    have ns := ic.toInCall.ns
    have hx1 := k _ _ hx
    rw [hb]
    refine wpAny_execs_cons (plainObj_wpAny_Assign_Attribute ?_)
    refine ld (v := v) ns (L2.bindL_get Sc.nd (i := 1) rfl rfl l2) ?_ Sc.kind l2 nd
    refine ld (v := .ref x) ns (L2.bindL_get Sc.nd (i := 0) rfl rfl l1) ?_ Sc.kind l1 (by decide)
    refine set_plain (X.keeps k) (ox := HandSPX.excO C t0) (od := none) ⟨hx1, rfl, rfl, trivial⟩ T.sa ?_
    refine put_first SF T no (X.keeps k) hx1 ?_
    intro h3 tk3 dx k3 dn dne hx3 hn3
    have z : s.heap.objs.size < h1.objs.size := ns.lt
    exact wpAny_execs_nil (hq h3 tk3 dx (fun b o hb' e => k3 b o hb' (k b o e)) hx3 (Nat.le_of_lt (Nat.lt_of_lt_of_le z dn)) dne hn3)

theorem init2 (SF : StoreFacts B bmB "object.__setattr__" "object") (T : ExT K C bmB newId) (no : findIn K (.ref C) n = some none) (no2 : findIn K (.ref C) n2 = some none)
    (F : L2.Fun K "__init__" qual st fI fd) (Sc : L2.FnScope ["self", n, n2] ["self", n, n2] (L2.defScope st)) (bd : L2.Binds K fd ["self", n, n2] [])
    (l1 : (L2.defScope st).names.lookup ("self" : Str) = some .local) (l2 : (L2.defScope st).names.lookup n = some .local) (l3 : (L2.defScope st).names.lookup n2 = some .local)
    (nd : (n == ("__debug__" : Str)) = false) (nd2 : (n2 == ("__debug__" : Str)) = false)
    {q1 q2 q3 q4 q5 q6 q7 q8 : Pos} (hb : L2.defBody st = [.Assign [.Attribute (.Name "self" q1) n q2] (.Name n q3) q4, .Assign [.Attribute (.Name "self" q5) n2 q6] (.Name n2 q7) q8])
    {t0 : Addr} {v v2 : Value} (X : K.In s.heap) (lim : s.heap.NoLimit) (hx : s.heap.get? x = some (HandSPX.excO C t0)) (hnx : K.lookup x = none) (room : A.depth < recursionLimit)
    (hq : ∀ h' tk dx, (∀ b o, b ≠ x → s.heap.get? b = some o → h'.get? b = some o) → h'.get? x = some { HandSPX.excO C t0 with dict := some dx } → s.heap.objs.size ≤ dx → dx ≠ x →
      h'.Ns1 dx (fun y => if y = n2 then some v2 else if y = n then some v else none) → R (.ok (.ret .none)) { s with heap := h', toks := tk }) :
    codeAny (model prog w) A (.call (.ref fI) ⟨[.ref x, v, v2], []⟩) R s := by
  obtain ⟨oc, od, kV, doc, pm, an, cdv, ct, osl, rfl, lk, hcd⟩ := F.ex
  refine codeAny_call_function room (X _ _ lk) rfl Sc.co Sc.gen rfl (codeRec_of X hcd)
    (bd s [.ref x, v, v2] X rfl _ _ _ _ (wpAny_newFunctionEnv_cells Sc.kind ?par ?walk))
  case par =>
    rintro ⟨m, u⟩ hy
    cases Sc.par m (List.of_mem_zip hy).1 with
    | inl q => exact .inl q
    | inr q => exact .inr ⟨q, cellsFrom_some _ _ _ (.inl q)⟩
  case walk =>
    intro env he s1 ic
    subst he
    obtain ⟨h1, tk1, rfl, k⟩ := ic.done
    refine ⟨lim.keeps k, codeAny_func ?_⟩
    have ns := ic.toInCall.ns
    have hx1 := k _ _ hx
    have ltx : x < s.heap.objs.size := Heap.lt_size hx
    have z : s.heap.objs.size < h1.objs.size := ns.lt
    rw [hb]
    refine wpAny_execs_cons (plainObj_wpAny_Assign_Attribute ?_)
    refine ld (v := v) ns (L2.bindL_get Sc.nd (i := 1) rfl rfl l2) ?_ Sc.kind l2 nd
    refine ld (v := .ref x) ns (L2.bindL_get Sc.nd (i := 0) rfl rfl l1) ?_ Sc.kind l1 (by decide)
    refine set_plain (X.keeps k) (ox := HandSPX.excO C t0) (od := none) ⟨hx1, rfl, rfl, trivial⟩ T.sa ?_
    refine put_first SF T no (X.keeps k) hx1 ?_
    intro h3 tk3 dx k3 dn dne hx3 hn3
    have X3 : K.In h3 := fun a o e => k3 a o (fun y => by rw [y, hnx] at e; cases e) (X.keeps k a o e)
    have ns3 := ns_keep ns fun o e => k3 _ o (Nat.ne_of_gt ltx) e
    refine wpAny_execs_cons (plainObj_wpAny_Assign_Attribute ?_)
    refine ld (v := v2) ns3 (L2.bindL_get Sc.nd (i := 2) rfl rfl l3) ?_ Sc.kind l3 nd2
    refine ld (v := .ref x) ns3 (L2.bindL_get Sc.nd (i := 0) rfl rfl l1) ?_ Sc.kind l1 (by decide)
    have hw := Within.cons n v Within.nil
    obtain ⟨oD, _, _, hoD, _, _⟩ := hn3.count hw
    refine set_plain X3 (ox := { HandSPX.excO C t0 with dict := some dx }) (od := some oD) ⟨hx3, rfl, rfl, hoD⟩ T.sa ?_
    refine put_next SF T no2 X3 hx3 hn3 hw (by simp) ?_
    intro h4 tk4 k4 hn4
    have dnx : ∀ b o, s.heap.get? b = some o → b ≠ dx := fun b o e => Nat.ne_of_lt (Nat.lt_of_lt_of_le (Heap.lt_size (k b o e)) dn)
    exact wpAny_execs_nil (hq h4 tk4 dx (fun b o hb' e => k4 b o (dnx b o e) (k3 b o hb' (k b o e))) (k4 x _ dne.symm hx3) (Nat.le_of_lt (Nat.lt_of_lt_of_le z dn)) dne hn4)

/-- C(v), C(v, v2) -/
theorem made1 (SF : StoreFacts B bmB "object.__setattr__" "object") (FB : ExcBaseFacts B newId initId bmB) (T : ExT K C bmB newId) (no : findIn K (.ref C) n = some none) (iC : findIn K (.ref C) "__init__" = some (some (.ref fI))) (tI : typeIn K (.ref fI) = some (.type "function"))
    (F : L2.Fun K "__init__" qual st fI fd) (Sc : L2.FnScope ["self", n] ["self", n] (L2.defScope st)) (bd : L2.Binds K fd ["self", n] [])
    (l1 : (L2.defScope st).names.lookup ("self" : Str) = some .local) (l2 : (L2.defScope st).names.lookup n = some .local) (nd : (n == ("__debug__" : Str)) = false)
    {q1 q2 q3 q4 : Pos} (hb : L2.defBody st = [.Assign [.Attribute (.Name "self" q1) n q2] (.Name n q3) q4])
    {v : Value} (X : K.In s.heap) (lim : s.heap.NoLimit) (room : A.depth + 1 < recursionLimit)
    (hq : ∀ h' tk e dx, Made s.heap h' e C dx (fun y => if y = n then some v else none) → R (.ok (.ret (.ref e))) { s with heap := h', toks := tk }) :
    codeAny (model prog w) A (.call (.ref C) ⟨[v], []⟩) R s := by
  obtain ⟨nm, N, qn, bs, bm, hdct, sn, sub, ab, col, dd, k0, k1, k2, k3, k5, hC, hT⟩ := excInit_of X T.own
  obtain ⟨hp, g, dr, tk, os⟩ := s
  have kp : ∀ b o, hp.get? b = some o → ((hp.push (kdv_tup [v])).push (HandSPX.excO C hp.objs.size)).get? b = some o := fun b o e => Heap.get?_push_of_some _ (Heap.get?_push_of_some _ e)
  refine HandSPX.call_own FB hT hC (looks_findIn X iC) (fun self => bind_fn X self tI) (by show 1 ≤ sizeLine; decide) ?_
  refine init1 (s := ⟨(hp.push (kdv_tup [v])).push (HandSPX.excO C hp.objs.size), g, dr, tk, os⟩) SF T no F Sc bd l1 l2 nd hb (X.keeps kp) (lim.keeps kp) (by heap_get) (by rw [L2.make_depth]; exact room) ?_
  intro h' tk' dx k' hx dn dne ns
  have z : hp.objs.size + 1 + 1 ≤ dx := by simpa only [Heap.size_push] using dn
  refine ⟨rfl, hq h' tk' (hp.objs.size + 1) dx ⟨fun b o e => k' b o (Nat.ne_of_lt (Nat.lt_succ_of_lt (Heap.lt_size e))) (kp b o e), Nat.le_succ _, ⟨_, hx⟩, by show hp.objs.size ≤ dx; omega, dne, ns⟩⟩
theorem made2 (SF : StoreFacts B bmB "object.__setattr__" "object") (FB : ExcBaseFacts B newId initId bmB) (T : ExT K C bmB newId) (no : findIn K (.ref C) n = some none) (no2 : findIn K (.ref C) n2 = some none) (iC : findIn K (.ref C) "__init__" = some (some (.ref fI))) (tI : typeIn K (.ref fI) = some (.type "function"))
    (F : L2.Fun K "__init__" qual st fI fd) (Sc : L2.FnScope ["self", n, n2] ["self", n, n2] (L2.defScope st)) (bd : L2.Binds K fd ["self", n, n2] [])
    (l1 : (L2.defScope st).names.lookup ("self" : Str) = some .local) (l2 : (L2.defScope st).names.lookup n = some .local) (l3 : (L2.defScope st).names.lookup n2 = some .local)
    (nd : (n == ("__debug__" : Str)) = false) (nd2 : (n2 == ("__debug__" : Str)) = false)
    {q1 q2 q3 q4 q5 q6 q7 q8 : Pos} (hb : L2.defBody st = [.Assign [.Attribute (.Name "self" q1) n q2] (.Name n q3) q4, .Assign [.Attribute (.Name "self" q5) n2 q6] (.Name n2 q7) q8])
    {v v2 : Value} (X : K.In s.heap) (lim : s.heap.NoLimit) (room : A.depth + 1 < recursionLimit)
    (hq : ∀ h' tk e dx, Made s.heap h' e C dx (fun y => if y = n2 then some v2 else if y = n then some v else none) → R (.ok (.ret (.ref e))) { s with heap := h', toks := tk }) :
    codeAny (model prog w) A (.call (.ref C) ⟨[v, v2], []⟩) R s := by
  obtain ⟨nm, N, qn, bs, bm, hdct, sn, sub, ab, col, dd, k0, k1, k2, k3, k5, hC, hT⟩ := excInit_of X T.own
  obtain ⟨hp, g, dr, tk, os⟩ := s
  have kp : ∀ b o, hp.get? b = some o → ((hp.push (kdv_tup [v, v2])).push (HandSPX.excO C hp.objs.size)).get? b = some o := fun b o e => Heap.get?_push_of_some _ (Heap.get?_push_of_some _ e)
  have hnx : K.lookup (hp.objs.size + 1) = none := by
    cases e : K.lookup (hp.objs.size + 1) with
    | none => rfl
    | some o => exact absurd (Heap.lt_size (X _ _ e)) (by show ¬ hp.objs.size + 1 < hp.objs.size; omega)
  refine HandSPX.call_own FB hT hC (looks_findIn X iC) (fun self => bind_fn X self tI) (by show 2 ≤ sizeLine; decide) ?_
  refine init2 (s := ⟨(hp.push (kdv_tup [v, v2])).push (HandSPX.excO C hp.objs.size), g, dr, tk, os⟩) SF T no no2 F Sc bd l1 l2 l3 nd nd2 hb (X.keeps kp) (lim.keeps kp) (by heap_get) hnx (by rw [L2.make_depth]; exact room) ?_
  intro h' tk' dx k' hx dn dne ns
  have z : hp.objs.size + 1 + 1 ≤ dx := by simpa only [Heap.size_push] using dn
  refine ⟨rfl, hq h' tk' (hp.objs.size + 1) dx ⟨fun b o e => k' b o (Nat.ne_of_lt (Nat.lt_succ_of_lt (Heap.lt_size e))) (kp b o e), Nat.le_succ _, ⟨_, hx⟩, by show hp.objs.size ≤ dx; omega, dne, ns⟩⟩
end
end LL

set_option Elab.async false
set_option linter.all false
set_option maxRecDepth 100000
set_option maxHeartbeats 4000000
namespace LL
open PySem PySem.Spec PyProof.Rows L2

/-- an error at e, its dict at dx with the fields fs -/
def putE (H : Hp) (e dx C : Addr) (fs : List (Str × V)) : Hp := upd (upd H dx (exd dx fs)) e (exo e C (some dx))

section
variable {X : Cx} {pins : List (Addr × Obj)} {σ : L2.St} {H : Hp}
theorem inv_made {h h' : Heap} {g : Array GenState} {d : Drawn} {t t' : Nat} {os : OsState} {e dx C : Addr} {m : Str → Option Value} {fs : List (Str × V)} (I : Inv X pins σ H ⟨h, g, d, t, os⟩)
    (M : Made h h' e C dx m) (r : ∀ f, RelO (fs.lookup f) (m f)) : Inv X pins σ (putE H e dx C fs) ⟨h', g, d, t', os⟩ ∧ H e = none ∧ H dx = none := by
  have ne : H e = none := I.hok.fresh M.big
  have nd : H dx = none := I.hok.fresh M.dbig
  have old : ∀ {b o}, h.get? b = some o → b ≠ e ∧ b ≠ dx := fun {b o} q =>
    ⟨Nat.ne_of_lt (Nat.lt_of_lt_of_le (Heap.lt_size q) M.big), Nat.ne_of_lt (Nat.lt_of_lt_of_le (Heap.lt_size q) M.dbig)⟩
  have lift : ∀ b o, H b = some o → putE H e dx C fs b = some o := fun b o q => by
    unfold putE
    rw [upd_ne (ne_of_none q ne), upd_ne (ne_of_none q nd)]
    exact q
  have U : Un X.fs [] H (putE H e dx C fs) h h' := {
    keep := fun b o q _ _ _ => M.keep b o q
    slot := fun b o q _ _ _ => ⟨o.slots, M.keep b o q⟩
    free := fun b o q n _ => by unfold putE; rw [upd_ne (old q).1, upd_ne (old q).2]; exact n
    there := fun b o q _ => ⟨o, M.keep b o q⟩
    tups := fun b xs q => lift b _ q
    frzs := fun b o u q => lift b _ q
    tbls := fun b ps q => ⟨#[], by rw [lift b _ q]; simp⟩ }
  refine ⟨I.un (h' := h') (t' := t') U fun b o q => ?_, ne, nd⟩
  by_cases be : b = e
  · subst be
    unfold putE at q
    rw [upd_same] at q
    cases q
    obtain ⟨t1, ho⟩ := M.obj
    exact exo_ok ho
  · by_cases bd : b = dx
    · subst bd
      unfold putE at q
      rw [upd_ne be, upd_same] at q
      cases q
      exact exd_ok M.ns r
    · have q' : H b = some o := by
        unfold putE at q
        rw [upd_ne be, upd_ne bd] at q
        exact q
      exact (I.hok b o q').stay (fun c u _ z => M.keep c u z) (fun c z => lift c _ z) fun c xs z => lift c _ z
end

/-- what is wanted of an error class of one field, of two fields, without __init__ -/
structure Er1 (K : PySem.W.Frag) (mg : Str → Option Value) (x n : Str) (C : Addr) : Prop where
  gC : mg x = some (.ref C)
  no : PySem.W.findIn K (.ref C) n = some none
  kp : PySem.W.keepIn K (.ref C) = true
  run : ∀ {prog : Program} {w : World} {A : Around} {R : Result → Shared → Prop} {s : Shared} {v : Value}, K.In s.heap → s.heap.NoLimit → A.depth + 1 < recursionLimit →
    (∀ h' tk e dx, Made s.heap h' e C dx (fun y => if y = n then some v else none) → R (.ok (.ret (.ref e))) { s with heap := h', toks := tk }) →
    codeAny (model prog w) A (.call (.ref C) ⟨[v], []⟩) R s
structure Er2 (K : PySem.W.Frag) (mg : Str → Option Value) (x n n2 : Str) (C : Addr) : Prop where
  gC : mg x = some (.ref C)
  no : PySem.W.findIn K (.ref C) n = some none
  no2 : PySem.W.findIn K (.ref C) n2 = some none
  kp : PySem.W.keepIn K (.ref C) = true
  run : ∀ {prog : Program} {w : World} {A : Around} {R : Result → Shared → Prop} {s : Shared} {v v2 : Value}, K.In s.heap → s.heap.NoLimit → A.depth + 1 < recursionLimit →
    (∀ h' tk e dx, Made s.heap h' e C dx (fun y => if y = n2 then some v2 else if y = n then some v else none) → R (.ok (.ret (.ref e))) { s with heap := h', toks := tk }) →
    codeAny (model prog w) A (.call (.ref C) ⟨[v, v2], []⟩) R s
structure Er0 (K : PySem.W.Frag) (mg : Str → Option Value) (x : Str) (C : Addr) (newId initId : String) (bmB : List Value) : Prop where
  gC : mg x = some (.ref C)
  kp : PySem.W.keepIn K (.ref C) = true
  own : PySem.W.excInitIn K C bmB newId = true
  ini : PySem.W.findIn K (.ref C) "__init__" = some (some (.builtin initId))
/-- for e.f and isinstance(e, ..) -/
structure ErC (K : PySem.W.Frag) (C : Addr) : Prop where
  hd : PySem.W.hasDictIn K C = true
  ga : PySem.W.findIn K (.ref C) "__getattribute__" = some (some (.builtin "BaseException.__getattribute__"))
  gg : PySem.W.findIn K (.ref C) "__getattr__" = some none
  sub : PySem.W.subIn K (.ref C) (.type "BaseException") = some true
  cl : PySem.W.findIn K (.ref C) "__class__" = some (some (.builtin "object.__class__"))
  mr : PySem.W.mroIn K C (.type "object") = some true
structure ClG (K : PySem.W.Frag) : Prop where
  sp : PySem.W.specialIn K (.builtin "object.__class__") "__get__" = some (some (.builtin "getset_descriptor.__get__"))
  tk : PySem.W.takesIn K (.builtin "object.__class__") = some true

def tMk1 (C : Addr) (n : Str) (ta : TA) : TE := fun σ H Q => ta σ H fun vs H1 => ∃ v, vs = [v] ∧ ∀ e dx, H1 e = none → H1 dx = none → dx ≠ e → Q (.ref e) (putE H1 e dx C [(n, v)])
def tMk2 (C : Addr) (n n2 : Str) (ta : TA) : TE := fun σ H Q => ta σ H fun vs H1 => ∃ v v2, vs = [v, v2] ∧ ∀ e dx, H1 e = none → H1 dx = none → dx ≠ e → Q (.ref e) (putE H1 e dx C [(n2, v2), (n, v)])
def tMk0 (C : Addr) : TE := fun σ H Q => ∀ e, H e = none → Q (.ref e) (upd H e (exo e C none))
section
variable {X : Cx} {C : Addr} {x n n2 : Str} {e : Expr} {es : List Expr} {ta : TA} {p pos : Pos} {k : Nat}
theorem pe_mk1 (T : Er1 X.K X.mg x n C) (hr : Room k X.A) (ha : PA X [e] ta) (hg : Gl X x := by rfl) (hdb : (x == ("__debug__" : Str)) = false := by decide)
    (he : starEach [e] X.env = (false, eval e X.env) :: starEach [] X.env := by rfl) (hpl : (backTo pos (starEach [] X.env)).any (·.1) = false := by rfl) :
    PE X (.Call (.Name x p) [e] [] pos) (tMk1 C n ta) := by
  refine ⟨fun pins s σ H Q I h => wpAny_Call_Name_kw (ld_glob I hg T.gC ?_ hdb)⟩
  refine PySem.W.callWith_K (h₀ := X.base) I.ok.mod.kin T.kp (thn (ha.run pos pins s σ H _ I h) ?_) he hpl
  rintro us s1 ⟨vs, H1, I1, r1, v, rfl, q⟩
  obtain ⟨u, rfl, ru⟩ := vals1 r1
  refine ⟨I1.kIn, wpAny_call (T.run I1.kIn I1.nolimit (by have := hr.dp; omega) ?_)⟩
  intro h' tk a dx M
  obtain ⟨hp, g, d, t, os⟩ := s1
  obtain ⟨J, ne, nd⟩ := inv_made (t' := tk) (fs := [(n, v)]) I1 M (relO_put (fs := []) (mA := fun _ => none) ru fun f => True.intro)
  exact ⟨.ref a, _, J, rfl, q a dx ne nd M.ne⟩
theorem pe_mk2 {e2 : Expr} (T : Er2 X.K X.mg x n n2 C) (hr : Room k X.A) (ha : PA X [e, e2] ta) (hg : Gl X x := by rfl) (hdb : (x == ("__debug__" : Str)) = false := by decide)
    (he : starEach [e, e2] X.env = (false, eval e X.env) :: starEach [e2] X.env := by rfl) (hpl : (backTo pos (starEach [e2] X.env)).any (·.1) = false := by rfl) :
    PE X (.Call (.Name x p) [e, e2] [] pos) (tMk2 C n n2 ta) := by
  refine ⟨fun pins s σ H Q I h => wpAny_Call_Name_kw (ld_glob I hg T.gC ?_ hdb)⟩
  refine PySem.W.callWith_K (h₀ := X.base) I.ok.mod.kin T.kp (thn (ha.run pos pins s σ H _ I h) ?_) he hpl
  rintro us s1 ⟨vs, H1, I1, r1, v, v2, rfl, q⟩
  obtain ⟨u, u2, rfl, ru, ru2⟩ := vals2 r1
  refine ⟨I1.kIn, wpAny_call (T.run I1.kIn I1.nolimit (by have := hr.dp; omega) ?_)⟩
  intro h' tk a dx M
  obtain ⟨hp, g, d, t, os⟩ := s1
  obtain ⟨J, ne, nd⟩ := inv_made (t' := tk) (fs := [(n2, v2), (n, v)]) I1 M (relO_put ru2 (relO_put (fs := []) (mA := fun _ => none) ru fun f => True.intro))
  exact ⟨.ref a, _, J, rfl, q a dx ne nd M.ne⟩
theorem pe_mk0 {B newId initId : String} {bmB : List Value} (FB : ExcBaseFacts B newId initId bmB) (T : Er0 X.K X.mg x C newId initId bmB) (hg : Gl X x := by rfl) (hdb : (x == ("__debug__" : Str)) = false := by decide) :
    PE X (.Call (.Name x p) [] [] pos) (tMk0 C) := by
  refine ⟨fun pins s σ H Q I h => wpAny_Call_Name_kw (ld_glob I hg T.gC ?_ hdb)⟩
  refine PySem.W.callWith_K0 I.kIn T.kp ?_
  obtain ⟨nm, N, qn, bs, bm, hdct, sn, sub, ab, col, dd, k0, k1, k2, k3, k5, hC, hT⟩ := PySem.W.excInit_of I.kIn T.own
  have ini := PySem.W.looks_findIn (M := model X.prog X.w) I.kIn T.ini
  obtain ⟨hp, g, d, t, os⟩ := s
  refine PySem.W.call_B FB hT hC ini (by show 0 ≤ sizeLine; exact Nat.zero_le _) ?_
  intro h' k he ht
  have sz : hp.objs.size ≤ hp.objs.size + 1 := Nat.le_succ _
  exact ⟨.ref (hp.objs.size + 1), upd H (hp.objs.size + 1) (exo (hp.objs.size + 1) C none), I.laid (t' := t) k sz (exo_ok he), rfl, h _ (I.hok.fresh sz)⟩

/-- e.n -/
def tFl (K : PySem.W.Frag) (n : Str) (te : TE) : TE := fun σ H Q => te σ H fun x H1 => ∃ (a C dx : Addr) (fs : List (Str × V)) (v : V), x = .ref a ∧ ErC K C ∧ PySem.W.findIn K (.ref C) n = some none ∧ H1 a = some (exo a C (some dx)) ∧ H1 dx = some (exd dx fs) ∧ fs.lookup n = some v ∧ Q v H1
theorem pe_fl {te : TE} (h : PE X e te) (hb : attributeBase e n X.env (eval e X.env) = eval e X.env := by rfl) : PE X (.Attribute e n pos) (tFl X.K n te) := by
  refine ⟨fun pins s σ H Q I q => attr_of hb (thn (h.run pins s σ H _ I q) ?_)⟩
  rintro u s1 ⟨y, H1, I1, rx, a, C, dx, fs, v, rfl, T, no, ha, hx, l, q⟩
  cases rx
  obtain ⟨t1, ho⟩ := exo_at I1.hok ha
  obtain ⟨mA, hns, hr⟩ := exd_at I1.hok hx
  obtain ⟨od, hod, hl⟩ := lookIn_ns hns
  obtain ⟨u, hu, ru⟩ := RelO.some_of (v := v) (o := mA n) (by rw [← l]; exact hr n)
  exact HandSPX.exc_get I1.kIn ⟨ho, rfl, rfl, hod⟩ T.ga T.gg T.sub (PySem.W.findObj_own T.hd no rfl (by rw [hl, hu])) (handed_of ru) ⟨v, H1, I1.tok _, ru, q⟩

/-- isinstance(e, c) -/
def rIsX (K : PySem.W.Frag) : List V → Hp → VK → Prop := fun xs H Q => ∃ (a C : Addr) (d : Option Addr) (c : V) (cv : Value) (b : Bool), xs = [.ref a, c] ∧ ClsV c cv ∧ ErC K C ∧ H a = some (exo a C d) ∧ (∀ dx, d = some dx → ∃ fs, H dx = some (exd dx fs)) ∧ PySem.W.kitOne K (.ref C) cv = some b ∧ Q (.bl b) H
theorem call_isX (G : ClG X.K) : CallR X (.builtin "isinstance") (rIsX X.K) := by
  intro pins s σ H xs us Q I r h
  obtain ⟨a, C, d, c, cv, b, rfl, kc, T, ha, hdx, e, q⟩ := h
  obtain ⟨u1, u2, rfl, r1, r2⟩ := vals2 r
  cases r1
  have ec := kc.eq r2
  subst ec
  obtain ⟨t1, ho⟩ := exo_at I.hok ha
  obtain ⟨cd, hc, _⟩ := PySem.W.any_some T.hd
  have hcl : (PySem.W.clsIn X.K C).isSome = true := by rw [hc]; rfl
  obtain ⟨od, J⟩ : ∃ od, PySem.W.InstAt s.heap a { cls := .ref C, dict := d, data := .fields #[.ref t1, .none, .none, .none, .bool false, .none] } C od := by
    cases d with
    | none => exact ⟨none, ho, rfl, rfl, trivial⟩
    | some dx =>
      obtain ⟨fs, hx⟩ := hdx dx rfl
      obtain ⟨mA, hns, hr⟩ := exd_at I.hok hx
      obtain ⟨od, hod, hl⟩ := lookIn_ns hns
      exact ⟨some od, ho, rfl, rfl, hod⟩
  exact PySem.W.kia_one (PySem.W.kitx_exc hcl T.ga T.gg T.sub T.cl G.sp G.tk T.mr) I.kIn J e (fun z => nomatch z) fun tk => ⟨.bl b, H, I.tok tk, rfl, q⟩
end
end LL

set_option Elab.async false
set_option linter.all false
set_option maxRecDepth 100000
set_option maxHeartbeats 4000000
namespace K40
open PySem PySem.Spec PyProof.Rows L2 LL
def topS (i : Nat) : Stmt := PySem.Challenge.pw_lesslater_k40_errors_and_bounds.main.body.getD i (.Pass ⟨0, 0, 0, 0⟩)
abbrev sBag : Stmt := topS 24
abbrev sDraw : Stmt := topS 25
abbrev sPick : Stmt := topS 26
abbrev sOdd : Stmt := topS 27
theorem scBag : FnScope ["_law_script", "_law_great", "_law_small", "_law_cell"] ["_law_script"] (defScope sBag) := ⟨rfl, rfl, rfl, by decide +kernel, rfl, by decide +kernel, by decide +kernel⟩
theorem scDraw : FnScope ["_law_bag_here", "_law_many", "_law_digit", "_law_mixed"] ["_law_bag_here", "_law_many"] (defScope sDraw) := ⟨rfl, rfl, rfl, by decide +kernel, rfl, by decide +kernel, by decide +kernel⟩
theorem scPick : FnScope ["_law_bag_here", "_law_items"] ["_law_bag_here", "_law_items"] (defScope sPick) := ⟨rfl, rfl, rfl, by decide +kernel, rfl, by decide +kernel, by decide +kernel⟩
theorem scOdd : FnScope ["_law_bag_here", "_law_some"] ["_law_bag_here"] (defScope sOdd) := ⟨rfl, rfl, rfl, by decide +kernel, rfl, by decide +kernel, by decide +kernel⟩

/-- the bag: three numbers -/
def BagO (o : HO) : Prop := ∃ g m c : Int, o = .lst [.int g, .int m, .int c] ∧ 0 ≤ g ∧ 0 ≤ m ∧ m < 2305843009213693952
def BagAt (H : Hp) (b : Addr) : Prop := ∃ o, H b = some o ∧ BagO o

def spBag (K : PySem.W.Frag) : Sp := fun vs H Q _ => ∃ (a : Addr) (ns : List Int), vs = [.ref a] ∧ SqL K H a (ns.map V.int) ∧ ns.length ≤ 63 ∧
  ∀ H' p, Same H H' → H p = none → BagAt H' p → Q (.ref p) H'
def spDraw : Sp := fun vs H Q _ => ∃ (b : Addr) (k : Int), vs = [.ref b, .int k] ∧ BagAt H b ∧ 0 < k ∧ k < 1000 ∧
  ∀ n o, 0 ≤ n → n < k → BagO o → Q (.int n) (upd H b o)
def spPick (K : PySem.W.Frag) : Sp := fun vs H Q _ => ∃ (b l : Addr) (xs : List V), vs = [.ref b, .ref l] ∧ BagAt H b ∧ SqL K (wo H b) l xs ∧ 0 < xs.length ∧ xs.length < 1000 ∧
  ∀ x o, x ∈ xs → BagO o → Q x (upd H b o)

section
variable {P : Program} {w : World} {K : PySem.W.Frag} {mg : Str → Option Value} {base : Heap}
theorem ok_bag {f : Addr} {fd : FuncData} {k : Nat} (F : Fun K "_law_bag" "_law_bag" sBag f fd) (ml : mg "len" = none) (mabs : mg "abs" = none) (mint : mg "int" = none) :
    FnOk P w K mg base CX0 (k + 1) f fd ["_law_script"] (spBag K) := by
  refine F.ok scBag (fun vs H Q E h => ?_) (fun cdv A outer s H vs Q E hr h => ?_)
  · obtain ⟨a, ns, rfl, _⟩ := h
    rfl
  obtain ⟨a, ns, rfl, hS, hlen, q⟩ := h
  refine ⟨_, pss_cons (ps_par (i := 1) (j := 2) (by rfl) scBag.nd rfl rfl (by decide) rfl rfl (pa_cons pe_int (pa_cons (pe_op op_add pe_int (pe_op op_mul pe_int (pe_callB call_len_seq (by rfl) ml PySem.boot_len (pa_cons (pv 0) pa_nil)))) pa_nil)) (by rfl))
    (pss_cons (ps_for PassesOwn.never rfl (pi_list (pe_slice sl_list (pv 0) po_none (po_some pe_int))) (pg_name (i := 3) scBag.nd rfl (.inl rfl))
      (pss_one (ps_if (pt_cmpR op_ge (pv 3) (pe_op op_pow pe_int pe_int) (nomark _))
        (pss_one (ps_set (i := 1) scBag.nd rfl (.inl rfl) (pe_op op_sub (pe_op op_add (pe_op op_mul (pv 1) pe_int) (pv 3)) (pe_op op_pow pe_int pe_int))))
        (pss_cons (ps_set (i := 2) scBag.nd rfl (.inl rfl) (pe_op op_add (pe_op op_add (pe_op op_mul (pv 2) pe_int) (pe_op op_mul pe_int (pe_callB call_abs (by rfl) mabs (by decide +kernel) (pa_cons (pv 3) pa_nil))))
            (pe_callTy call_int1 (by rfl) mint (by decide +kernel) (pa_cons (pe_cmpR op_lt (pv 3) pe_int (nomark _)) pa_nil))))
          (pss_one (ps_set (i := 2) scBag.nd rfl (.inl rfl) (pe_op op_mod (pe_callTy call_int1 (by rfl) mint (by decide +kernel) (pa_cons (pv 2) pa_nil)) pe_int)))))))
    (pss_one (ps_ret (pe_lst (pa_cons (pv 1) (pa_cons (pv 2) (pa_cons pe_int pa_nil))))))), ?_⟩
  refine ⟨.ref a, rfl, a, ns.map V.int, rfl, .inl hS, 37, _, rfl, rfl, .inl ⟨by decide, by decide⟩, _, _, rfl, rfl, _, _, rfl, ?_⟩
  refine ⟨.ref a, rfl, 63, rfl, a, ns.map V.int, rfl, hS, fun c nc => ?_⟩
  have sc := same_new (H := H) (p := c) (o := .lst (cutV (ns.map V.int) none (some 63))) nc
  obtain ⟨zs, ez⟩ : ∃ zs : List Int, cutV (ns.map V.int) none (some 63) = zs.map V.int := by
    refine ⟨?zz, ?ee⟩
    case ee =>
      unfold cutV
      rw [← List.map_drop, ← List.map_take]
  refine ⟨c, rfl, ⟨_, SqL.of upd_same⟩, ?_⟩
  refine for_list (K := K) (a := c) (xs := zs.map V.int) (fun i σ H2 => ∃ (g m : Int) (v : Option V), σ = [some (.ref a), some (.int g), some (.int m), v] ∧ 0 ≤ g ∧ 0 ≤ m ∧ m < 2305843009213693952 ∧ Same H H2 ∧ H2 c = some (.lst (zs.map V.int))) ?_ ?_ ?_ ?_
  · refine ⟨_, _, _, rfl, by decide, ?_, ?_, sc, by rw [upd_same, ez]⟩
    · rw [List.length_map]; omega
    · rw [List.length_map]; omega
  · rintro i σ H2 _ ⟨_, _, _, _, _, _, _, _, e⟩
    exact SqL.of e
  · rintro i y σ H2 hi ⟨g, m, v, rfl, g0, m0, m1, s2, e2⟩
    obtain ⟨z, _, rfl⟩ := List.mem_map.mp (List.mem_of_getElem? hi)
    refine ⟨_, rfl, 10, 18, rfl, rfl, ⟨by decide, by decide, by decide⟩, _, _, rfl, rfl, _, rfl, ite2 (fun c1 => ?_) (fun c1 => ?_)⟩
    · have c2 : (10 : Int) ^ (18 : Int).toNat ≤ z := of_decide_eq_true c1
      refine ⟨_, rfl, _, _, rfl, rfl, .inr ⟨by decide, by decide⟩, _, rfl, _, _, rfl, rfl, 10, 18, rfl, rfl, ⟨by decide, by decide, by decide⟩, _, _, rfl, rfl, ?_⟩
      refine ⟨_, m, _, rfl, ?_, m0, m1, s2, e2⟩
      omega
    · refine ⟨_, rfl, _, _, rfl, rfl, .inr ⟨by decide, by decide⟩, _, rfl, _, rfl, 2, _, rfl, rfl, .inl ⟨by decide, by decide⟩, _, _, rfl, rfl, _, rfl, _, _, rfl, rfl, .inr ⟨_, rfl, _, _, rfl, rfl, ?_⟩⟩
      refine ⟨_, rfl, .inl ⟨_, rfl, _, _, rfl, rfl, (by show (0 : Int) < 2305843009213693951; decide), ?_⟩⟩
      refine ⟨g, _, _, rfl, g0, Int.emod_nonneg _ (by decide), ?_, s2, e2⟩
      exact Int.lt_trans (Int.emod_lt_of_pos _ (by decide)) (by decide)
  · rintro σ H2 ⟨g, m, v, rfl, g0, m0, m1, s2, e2⟩
    refine ⟨_, rfl, _, rfl, (by show 3 ≤ sizeLine; decide), fun p np => ?_⟩
    exact q _ p (s2.trans (same_new np)) (s2.free np) ⟨_, upd_same, g, m, 0, rfl, g0, m0, m1⟩

theorem ok_draw {f : Addr} {fd : FuncData} {k : Nat} (F : Fun K "_law_draw" "_law_draw" sDraw f fd) (mint : mg "int" = none) :
    FnOk P w K mg base CX0 (k + 1) f fd ["_law_bag_here", "_law_many"] spDraw := by
  refine F.ok scDraw (fun vs H Q E h => ?_) (fun cdv A outer s H vs Q E hr h => ?_)
  · obtain ⟨a, k, rfl, _⟩ := h
    rfl
  obtain ⟨b, n, rfl, ⟨_, hb, g, m, c, rfl, g0, m0, m1⟩, n0, n1, q⟩ := h
  refine ⟨_, pss_cons (ps_if (pt_cmpR op_gt (pe_ix ix_list (pv 0) pe_int (fun _ _ => rfl)) pe_int (nomark _))
      (pss_cons (ps_set (i := 2) scDraw.nd rfl (.inl rfl) (pe_op op_mod (pe_callTy call_int1 (by rfl) mint (by decide +kernel) (pa_cons (pe_ix ix_list (pv 0) pe_int (fun _ _ => rfl)) pa_nil)) (pv 1)))
      (pss_cons (ps_asg (pe_op op_fdiv (pe_ix ix_list (pv 0) pe_int (fun _ _ => rfl)) (pv 1)) (pg_sub (pv 0) pe_int set_list))
      (pss_one (ps_ret (pv 2))))) pss_nil)
    (pss_cons (ps_asg (pe_op op_add (pe_ix ix_list (pv 0) pe_int (fun _ _ => rfl)) pe_int) (pg_sub (pv 0) pe_int set_list))
    (pss_cons (ps_set (i := 3) scDraw.nd rfl (.inl rfl) (pe_op op_add (pe_op op_mul (pe_ix ix_list (pv 0) pe_int (fun _ _ => rfl)) pe_int) (pe_op op_mul pe_int (pe_ix ix_list (pv 0) pe_int (fun _ _ => rfl)))))
    (pss_cons (ps_asg (pe_op op_mod (pe_callTy call_int1 (by rfl) mint (by decide +kernel) (pa_cons (pv 3) pa_nil)) pe_int) (pg_sub (pv 0) pe_int set_list))
    (pss_one (ps_ret (pe_op op_mod (pe_op op_fdiv (pe_op op_mod (pe_callTy call_int1 (by rfl) mint (by decide +kernel) (pa_cons (pe_op op_mul (pe_ix ix_list (pv 0) pe_int (fun _ _ => rfl)) (pe_ix ix_list (pv 0) pe_int (fun _ _ => rfl))) pa_nil)) pe_int) pe_int) (pv 1))))))), ?_⟩
  refine ⟨_, rfl, b, _, 0, _, rfl, rfl, SqL.of hb, atI_nat (j := 0) rfl, _, _, rfl, rfl, _, rfl, ite2 (fun c1 => ?_) (fun c1 => ?_)⟩
  · have c2 : (0 : Int) < g := of_decide_eq_true c1
    refine ⟨_, rfl, b, _, 0, _, rfl, rfl, SqL.of hb, atI_nat (j := 0) rfl, .inl ⟨_, rfl, _, rfl, _, _, rfl, rfl, n0, ?_⟩⟩
    refine ⟨_, rfl, b, _, 0, _, rfl, rfl, SqL.of hb, atI_nat (j := 0) rfl, _, rfl, _, _, rfl, rfl, ⟨n0, by omega⟩, _, rfl, b, _, 0, 0, rfl, rfl, hb, rfl, ?_⟩
    refine ⟨_, rfl, ?_⟩
    exact q _ _ (Int.emod_nonneg _ (by omega)) (Int.emod_lt_of_pos _ n0) ⟨_, m, c, rfl, Int.ediv_nonneg g0 (by omega), m0, m1⟩
  · refine ⟨_, rfl, b, _, 2, _, rfl, rfl, SqL.of hb, atI_nat (j := 2) rfl, _, _, rfl, rfl, _, rfl, b, _, 2, 2, rfl, rfl, hb, rfl, ?_⟩
    refine ⟨_, rfl, b, _, 1, _, rfl, rfl, SqL.of upd_same, atI_nat (j := 1) rfl, _, _, rfl, rfl, .inr ⟨by decide, by decide⟩, _, rfl, b, _, 2, _, rfl, rfl, SqL.of upd_same, atI_nat (j := 2) rfl, 3037000493, _, rfl, rfl, .inl ⟨by decide, by decide⟩, _, _, rfl, rfl, ?_⟩
    refine ⟨_, rfl, .inl ⟨_, rfl, _, _, rfl, rfl, (by show (0 : Int) < 2305843009213693951; decide), _, rfl, b, _, 1, 1, rfl, rfl, upd_same, rfl, ?_⟩⟩
    have e0 := Int.emod_nonneg (m * 3202034522624059733 + 3037000493 * (c + 1)) (b := 2305843009213693951) (by decide)
    have e1 := Int.emod_lt_of_pos (m * 3202034522624059733 + 3037000493 * (c + 1)) (b := 2305843009213693951) (by decide)
    refine ⟨_, rfl, b, _, 1, _, rfl, rfl, SqL.of upd_same, atI_nat (j := 1) rfl, _, rfl, b, _, 1, _, rfl, rfl, SqL.of upd_same, atI_nat (j := 1) rfl, _, _, rfl, rfl, .inl ⟨by omega, by omega⟩, .inl ⟨_, rfl, _, _, rfl, rfl, (by show (0 : Int) < 2305843009213693921; decide), _, _, rfl, rfl, ⟨by decide, by decide⟩, _, rfl, _, _, rfl, rfl, n0, ?_⟩⟩
    rw [upd_upd]
    exact q _ _ (Int.emod_nonneg _ (by omega)) (Int.emod_lt_of_pos _ n0) ⟨g, _, c + 1, rfl, g0, e0, by omega⟩

theorem ok_pick {f fD : Addr} {fd fdD : FuncData} (F : Fun K "_law_pick" "_law_pick" sPick f fd) (FD : Fun K "_law_draw" "_law_draw" sDraw fD fdD) (bD : Binds K fdD ["_law_bag_here", "_law_many"] []) (gD : mg "_law_draw" = some (.ref fD)) (mint : mg "int" = none) (ml : mg "len" = none) :
    FnOk P w K mg base CX0 2 f fd ["_law_bag_here", "_law_items"] (spPick K) := by
  have GD : FnOk P w K mg base CX0 1 fD fdD ["_law_bag_here", "_law_many"] spDraw := ok_draw FD mint
  refine F.ok scPick (fun vs H Q E h => ?_) (fun cdv A outer s H vs Q E hr h => ?_)
  · obtain ⟨a, l, xs, rfl, _⟩ := h
    rfl
  obtain ⟨b, l, xs, rfl, hb, hl, x0, x1, q⟩ := h
  refine ⟨_, pss_one (ps_ret (pe_ix ix_list (pv 1) (pe_call GD hr (by rfl) gD FD.kp bD .nil pass0 (pa_cons (pv 0) (pa_cons (pe_callB call_len_seq (by rfl) ml PySem.boot_len (pa_cons (pv 1) pa_nil)) pa_nil))) (fun _ _ => rfl))), ?_⟩
  refine ⟨_, rfl, _, rfl, _, rfl, l, xs, rfl, .inl (wo_same.seq hl), b, xs.length, rfl, hb, by omega, by omega, fun n o n0 n1 ho => ?_⟩
  obtain ⟨j, rfl⟩ : ∃ j : Nat, n = (j : Int) := ⟨n.toNat, by omega⟩
  have hj : j < xs.length := by omega
  have hl2 : SqL K (upd H b o) l xs := wo_same.seq ((But.upd (b := b) (H := H) (o := o)).wo.seq hl)
  refine ⟨l, xs, _, xs[j], rfl, rfl, hl2, at_of (j := j) rfl (List.getElem?_eq_getElem hj), ?_⟩
  exact q _ _ (List.getElem_mem hj) ho
end
end K40

set_option Elab.async false
set_option linter.all false
set_option maxRecDepth 100000
set_option maxHeartbeats 4000000
namespace K40
open PySem PySem.Spec PyProof.Rows L2 LL
def odd1 : List PyData := [.none, .bool true, .bool false, .int 0, .int 1, .int (-(1)), .int 7, .int (10 ^ (30 : Int).toNat), .str "", .str "0", .str "task", .tuple [], .list [], .tuple [.int 0], .tuple [.int 1, .int 0], .list [.int 0], .tuple [.int 0, .bool true], .dict []]
def odd2 : List PyData := [.tuple [.none], .tuple [.str "0"], .tuple [.tuple [.int 0], .int 0], .tuple [.int 0, .int 0], .list [.tuple [.int 0, .int 1]], .dict [(.str "0", .int 1)], .tuple [.int 0, .int 1, .int 2, .int 3, .int 4], .tuple [.int 5]]
def oddD : List PyData := odd1 ++ odd2
/-- odd values of the bag at b: v is one of the data, apart from the bag -/
def spVal (K : PySem.W.Frag) (ds : List PyData) (b : Addr) (H : Hp) (Q : VK) : Prop := ∀ v d H', d ∈ ds → Dq K (wo H' b) v d → BagAt H' b → But b H H' → Q v H'
def spOdd (K : PySem.W.Frag) : Sp := fun vs H Q _ => ∃ b : Addr, vs = [.ref b] ∧ BagAt H b ∧ spVal K oddD b H Q
theorem BagAt.ne {H : Hp} {b : Addr} (h : BagAt H b) : H b ≠ none := by
  obtain ⟨o, e, _⟩ := h
  rw [e]
  simp
theorem BagAt.up {H H' : Hp} {b : Addr} (h : BagAt H b) (s : Same H H') : BagAt H' b := by
  obtain ⟨o, e, z⟩ := h
  exact ⟨o, s _ _ e, z⟩
section
variable {P : Program} {w : World} {K : PySem.W.Frag} {mg : Str → Option Value} {base : Heap}
theorem ok_odd {f fP : Addr} {fd fdP : FuncData} (F : Fun K "_law_odd" "_law_odd" sOdd f fd) (FP : Fun K "_law_pick" "_law_pick" sPick fP fdP) (bP : Binds K fdP ["_law_bag_here", "_law_items"] []) (gP : mg "_law_pick" = some (.ref fP))
    (GP : FnOk P w K mg base CX0 2 fP fdP ["_law_bag_here", "_law_items"] (spPick K)) : FnOk P w K mg base CX0 3 f fd ["_law_bag_here"] (spOdd K) := by
  refine F.ok scOdd (fun vs H Q E h => ?_) (fun cdv A outer s H vs Q E hr h => ?_)
  · obtain ⟨a, rfl, _⟩ := h
    rfl
  obtain ⟨b, rfl, hb, q⟩ := h
  refine ⟨_, pss_cons (ps_set (i := 1) scOdd.nd rfl (.inl rfl) (lit_lstT (ds := odd1) (lits_cons lit_non (lits_cons lit_bl (lits_cons lit_bl (lits_cons lit_int (lits_cons lit_int (lits_cons (lit_neg lit_int) (lits_cons lit_int (lits_cons lit_pow (lits_cons lit_str (lits_cons lit_str (lits_cons lit_str (lits_cons (lit_tup lits_nil) (lits_cons (lit_lst lits_nil) (lits_cons (lit_tup (lits_cons lit_int lits_nil)) (lits_cons (lit_tup (lits_cons lit_int (lits_cons lit_int lits_nil))) (lits_cons (lit_lst (lits_cons lit_int lits_nil)) (lits_cons (lit_tup (lits_cons lit_int (lits_cons lit_bl lits_nil))) (lits_cons lit_d0 lits_nil))))))))))))))))))))
    (pss_one (ps_ret (pe_call GP hr (by rfl) gP FP.kp bP .nil pass0 (pa_cons (pv 0) (pa_cons (pe_op op_cat (pv 1)
      (lit_lstT (ds := odd2) (lits_cons (lit_tup (lits_cons lit_non lits_nil)) (lits_cons (lit_tup (lits_cons lit_str lits_nil)) (lits_cons (lit_tup (lits_cons (lit_tup (lits_cons lit_int lits_nil)) (lits_cons lit_int lits_nil))) (lits_cons (lit_tup (lits_cons lit_int (lits_cons lit_int lits_nil))) (lits_cons (lit_lst (lits_cons (lit_tup (lits_cons lit_int (lits_cons lit_int lits_nil))) lits_nil)) (lits_cons lit_d1 (lits_cons (lit_tup (lits_cons lit_int (lits_cons lit_int (lits_cons lit_int (lits_cons lit_int (lits_cons lit_int lits_nil)))))) (lits_cons (lit_tup (lits_cons lit_int lits_nil)) lits_nil)))))))))) pa_nil))))), ?_⟩
  intro p1 v1 H1 s1 n1 e1 f1
  refine ⟨_, rfl, _, rfl, fun p2 v2 H2 s2 n2 e2 f2 => ?_⟩
  have l1 : v1.length = 18 := f1.dat.length
  have l2 : v2.length = 8 := f2.dat.length
  refine ⟨p1, p2, v1, v2, rfl, rfl, s2 _ _ e1, e2, (by rw [l1, l2]; show 26 ≤ sizeLine; decide), fun p3 n3 => ?_⟩
  have s3 := same_new (o := .lst (v1 ++ v2)) n3
  have s03 := (s1.trans s2).trans s3
  have np : p3 ≠ b := fun z => hb.ne (by rw [← z]; exact (s1.trans s2).free n3)
  have hb3 := hb.up s03
  have hA : DqAll K (wo (upd H2 p3 (.lst (v1 ++ v2))) b) (v1 ++ v2) (odd1 ++ odd2) :=
    ((f1.sep b hb.ne).up (wo_up (s2.trans s3))).append ((f2.sep b (hb.up s1).ne).up (wo_up s3))
  refine ⟨b, p3, v1 ++ v2, rfl, hb3, .inl (.inl (wo_at upd_same np)), by rw [List.length_append]; omega, by rw [List.length_append]; omega, fun x o hx ho => ?_⟩
  obtain ⟨d, hd, hD⟩ := hA.mem hx
  exact q x d _ hd (by rw [wo_upd]; exact hD) ⟨o, upd_same, ho⟩ ((But.of s03).trans But.upd)
end
end K40

set_option Elab.async false
set_option linter.all false
set_option maxRecDepth 100000
set_option maxHeartbeats 4000000
namespace LL
open PySem PySem.Spec PyProof.Rows L2
/-- an error's class and fields -/
abbrev ESp := Addr × Option (List (Str × V))
def ErD (H : Hp) (v : V) (c : ESp) : Prop := ∃ e : Addr, v = .ref e ∧ match c.2 with
  | none => H e = some (exo e c.1 none)
  | some fs => ∃ dx, H e = some (exo e c.1 (some dx)) ∧ H dx = some (exd dx fs)
theorem ErD.up {H H' : Hp} {v : V} {c : ESp} (s : Same H H') (h : ErD H v c) : ErD H' v c := by
  obtain ⟨C, fs⟩ := c
  obtain ⟨e, rfl, h⟩ := h
  cases fs with
  | none => exact ⟨e, rfl, s _ _ h⟩
  | some fs =>
    obtain ⟨dx, h1, h2⟩ := h
    exact ⟨e, rfl, dx, s _ _ h1, s _ _ h2⟩
inductive ErDs (H : Hp) : List V → List ESp → Prop
  | nil : ErDs H [] []
  | cons {v : V} {vs : List V} {c : ESp} {cs : List ESp} (h : ErD H v c) (r : ErDs H vs cs) : ErDs H (v :: vs) (c :: cs)
theorem ErDs.up {H H' : Hp} (s : Same H H') : ∀ {vs : List V} {cs : List ESp}, ErDs H vs cs → ErDs H' vs cs
  | _, _, .nil => .nil
  | _, _, .cons h r => .cons (h.up s) (ErDs.up s r)
theorem ErDs.append {H : Hp} : ∀ {vs ws : List V} {cs ds : List ESp}, ErDs H vs cs → ErDs H ws ds → ErDs H (vs ++ ws) (cs ++ ds)
  | _, _, _, _, .nil, s => s
  | _, _, _, _, .cons h r, s => .cons h (ErDs.append r s)
theorem ErDs.length {H : Hp} : ∀ {vs : List V} {cs : List ESp}, ErDs H vs cs → vs.length = cs.length
  | _, _, .nil => rfl
  | _, _, .cons h r => by rw [List.length_cons, List.length_cons, ErDs.length r]
theorem ErDs.get {H : Hp} : ∀ {vs : List V} {cs : List ESp} (i : Nat) {c : ESp}, ErDs H vs cs → cs[i]? = some c → ∃ v, vs[i]? = some v ∧ ErD H v c
  | _, _, 0, _, .cons h _, e => by cases e; exact ⟨_, rfl, h⟩
  | _, _, i + 1, _, .cons _ r, e => ErDs.get i r e
theorem same_putE {H : Hp} {e dx C : Addr} {fs : List (Str × V)} (h1 : H e = none) (h2 : H dx = none) : Same H (putE H e dx C fs) := fun b o q => by
  unfold putE
  rw [upd_ne (ne_of_none q h1), upd_ne (ne_of_none q h2)]
  exact q
theorem erd_putE {H : Hp} {e dx C : Addr} {fs : List (Str × V)} (n : dx ≠ e) : ErD (putE H e dx C fs) (.ref e) (C, some fs) := by
  refine ⟨e, rfl, dx, ?_, ?_⟩
  · unfold putE; rw [upd_same]
  · unfold putE; rw [upd_ne n, upd_same]
/-- with the first two slots told -/
def tEr (c : V → V → ESp) : TE := fun σ H Q => ∃ p q, σ[0]? = some (some p) ∧ σ[1]? = some (some q) ∧ ∀ v H', Same H H' → ErD H' v (c p q) → Q v H'
def tErs (c : V → V → List ESp) : TA := fun σ H Q => ∃ p q, σ[0]? = some (some p) ∧ σ[1]? = some (some q) ∧ ∀ v H', Same H H' → ErDs H' v (c p q) → Q v H'
section
variable {X : Cx} {C : Addr} {x n n2 : Str} {e e2 : Expr} {es : List Expr} {p pos : Pos} {k : Nat} {c : V → V → ESp} {cs : V → V → List ESp}
theorem er1 (T : Er1 X.K X.mg x n C) (hr : Room k X.A) (h : PE X e (tVar 0)) (hg : Gl X x := by rfl) (hdb : (x == ("__debug__" : Str)) = false := by decide)
    (he : starEach [e] X.env = (false, eval e X.env) :: starEach [] X.env := by rfl) (hpl : (backTo pos (starEach [] X.env)).any (·.1) = false := by rfl) :
    PE X (.Call (.Name x p) [e] [] pos) (tEr fun a _ => (C, some [(n, a)])) :=
  imp (pe_mk1 T hr (pa_cons h pa_nil he) hg hdb he hpl) fun σ H Q ⟨a, b, e1, e2, q⟩ => ⟨a, e1, a, rfl, fun e dx ne nd n => q _ _ (same_putE ne nd) (erd_putE n)⟩
theorem er2 (T : Er2 X.K X.mg x n n2 C) (hr : Room k X.A) (h : PE X e (tVar 0)) (h2 : PE X e2 (tVar 1)) (hg : Gl X x := by rfl) (hdb : (x == ("__debug__" : Str)) = false := by decide)
    (he : starEach [e, e2] X.env = (false, eval e X.env) :: starEach [e2] X.env := by rfl) (he2 : starEach [e2] X.env = (false, eval e2 X.env) :: starEach [] X.env := by rfl) (hpl : (backTo pos (starEach [e2] X.env)).any (·.1) = false := by rfl) :
    PE X (.Call (.Name x p) [e, e2] [] pos) (tEr fun a b => (C, some [(n2, b), (n, a)])) :=
  imp (pe_mk2 T hr (pa_cons h (pa_cons h2 pa_nil he2) he) hg hdb he hpl) fun σ H Q ⟨a, b, e1, e2, q⟩ => ⟨a, e1, b, e2, a, b, rfl, fun e dx ne nd n => q _ _ (same_putE ne nd) (erd_putE n)⟩
theorem er0 {B newId initId : String} {bmB : List Value} (FB : ExcBaseFacts B newId initId bmB) (T : Er0 X.K X.mg x C newId initId bmB) (hg : Gl X x := by rfl) (hdb : (x == ("__debug__" : Str)) = false := by decide) :
    PE X (.Call (.Name x p) [] [] pos) (tEr fun _ _ => (C, none)) :=
  imp (pe_mk0 FB T hg hdb) fun σ H Q ⟨a, b, e1, e2, q⟩ e ne => q _ _ (same_new ne) ⟨e, rfl, upd_same⟩
theorem ers_nil : PA X [] (tErs fun _ _ => []) := impA pa_nil fun σ H Q ⟨a, b, e1, e2, q⟩ => q _ _ (Same.refl _) .nil
theorem ers_cons (h : PE X e (tEr c)) (r : PA X es (tErs cs)) (hs : starEach (e :: es) X.env = (false, eval e X.env) :: starEach es X.env := by rfl) : PA X (e :: es) (tErs fun a b => c a b :: cs a b) :=
  impA (pa_cons h r hs) fun σ H Q ⟨a, b, e1, e2, q⟩ => ⟨a, b, e1, e2, fun v H1 s1 d1 => ⟨a, b, e1, e2, fun vs H2 s2 d2 => q _ _ (s1.trans s2) (.cons (d1.up s2) d2)⟩⟩
/-- isinstance(e, c), e in the first slot -/
def tIs (K : PySem.W.Frag) (cv : Value) : TE := fun σ H Q => ∃ v C fs b, σ[0]? = some (some v) ∧ ErD H v (C, fs) ∧ ErC K C ∧ PySem.W.kitOne K (.ref C) cv = some b ∧ Q (.bl b) H
theorem is_er {cv : Value} {c : V} (G : ClG X.K) (mi : X.mg "isinstance" = none) (h : PE X e (tVar 0)) (h2 : PE X e2 (tC c)) (kc : ClsV c cv) (hg : Gl X "isinstance" := by rfl)
    (he : starEach [e, e2] X.env = (false, eval e X.env) :: starEach [e2] X.env := by rfl) (he2 : starEach [e2] X.env = (false, eval e2 X.env) :: starEach [] X.env := by rfl) (hpl : (backTo pos (starEach [e2] X.env)).any (·.1) = false := by rfl) :
    PE X (.Call (.Name "isinstance" p) [e, e2] [] pos) (tIs X.K cv) :=
  imp (pe_callB (call_isX G) hg mi (by decide +kernel) (pa_cons h (pa_cons h2 pa_nil he2) he) (by decide) (by decide) he hpl) fun σ H Q ⟨v, C, fs, b, e1, d, T, kk, q⟩ => by
    obtain ⟨a, rfl, d⟩ := d
    refine ⟨_, e1, ?_⟩
    cases fs with
    | none => exact ⟨a, C, none, c, cv, b, rfl, kc, T, d, (fun dx z => by cases z), kk, q⟩
    | some fs =>
      obtain ⟨dx, h1, h2⟩ := d
      exact ⟨a, C, some dx, c, cv, b, rfl, kc, T, h1, (fun dy z => by cases z; exact ⟨fs, h2⟩), kk, q⟩
end
end LL
namespace K40
open PySem PySem.Spec PyProof.Rows L2 LL
abbrev sSorts : Stmt := topS 28
abbrev sMade : Stmt := topS 29
abbrev veB : List Value := [.type "ValueError", .type "Exception", .type "BaseException", .type "object"]
theorem scSorts : FnScope ["_law_error", "_law_found"] ["_law_error"] (defScope sSorts) := ⟨rfl, rfl, rfl, by decide +kernel, rfl, by decide +kernel, by decide +kernel⟩
theorem scMade : FnScope ["_law_p", "_law_q", "_law_found"] ["_law_p", "_law_q"] (defScope sMade) := ⟨rfl, rfl, rfl, by decide +kernel, rfl, by decide +kernel, by decide +kernel⟩
/-- all of the classes; c: where they stand, PlanError the last one -/
structure EC (K : PySem.W.Frag) (mg : Str → Option Value) (c : Nat → Addr) : Prop where
  e0 : Er1 K mg "BadDay" "value" (c 0)
  e1 : Er1 K mg "BadDurations" "index" (c 1)
  e2 : Er1 K mg "BadFraction" "place" (c 2)
  e3 : Er1 K mg "BadMost" "most" (c 3)
  e4 : Er2 K mg "BadPlan" "number" "word" (c 4)
  e5 : Er1 K mg "BadText" "line" (c 5)
  e6 : Er0 K mg "Full" (c 6) "ValueError.__new__" "ValueError.__init__" veB
  e7 : Er1 K mg "Late" "durations" (c 7)
  e8 : Er1 K mg "NoBack" "many" (c 8)
  e9 : Er1 K mg "NoGroup" "group" (c 9)
  e10 : Er0 K mg "NotBeside" (c 10) "ValueError.__new__" "ValueError.__init__" veB
  e11 : Er0 K mg "NothingToUndo" (c 11) "ValueError.__new__" "ValueError.__init__" veB
  e12 : Er1 K mg "TooMany" "limit" (c 12)
  e13 : Er2 K mg "NoPair" "before" "behind" (c 13)
  e14 : Er1 K mg "NoTask" "number" (c 14)
  gP : mg "PlanError" = some (.ref (c 15))
  erc : ∀ i, i < 15 → ErC K (c i)
  kit : ∀ i j, i < 15 → j < 15 → PySem.W.kitOne K (.ref (c i)) (.ref (c j)) = some (decide (j = i))
  kP : ∀ i, i < 15 → PySem.W.kitOne K (.ref (c i)) (.ref (c 15)) = some (decide (i < 13))
  kV : ∀ i, i < 15 → PySem.W.kitOne K (.ref (c i)) (.type "ValueError") = some (decide (i < 13))
  kL : ∀ i, i < 15 → PySem.W.kitOne K (.ref (c i)) (.type "LookupError") = some (!decide (i < 13))
  cg : ClG K
def specs (c : Nat → Addr) (p q : V) : List ESp := [(c 0, some [(("value" : Str), p)]), (c 1, some [(("index" : Str), p)]), (c 2, some [(("place" : Str), p)]), (c 3, some [(("most" : Str), p)]), (c 4, some [(("word" : Str), q), (("number" : Str), p)]), (c 5, some [(("line" : Str), p)]), (c 6, none), (c 7, some [(("durations" : Str), p)])] ++
  [(c 8, some [(("many" : Str), p)]), (c 9, some [(("group" : Str), p)]), (c 10, none), (c 11, none), (c 12, some [(("limit" : Str), p)]), (c 13, some [(("behind" : Str), q), (("before" : Str), p)]), (c 14, some [(("number" : Str), p)])]
def spMade (c : Nat → Addr) : Sp := fun vs H Q _ => ∃ p q : V, vs = [p, q] ∧ ∀ l es H', Same H H' → H l = none → H' l = some (.lst es) → ErDs H' es (specs c p q) → Q (.ref l) H'
/-- the answers of the sorts of the i-th error -/
def ansL (i : Nat) : List Bool := [decide (0 = i), decide (1 = i), decide (2 = i)] ++ [decide (3 = i), decide (4 = i), decide (5 = i)] ++ [decide (6 = i), decide (7 = i), decide (8 = i)] ++ [decide (9 = i), decide (10 = i), decide (11 = i)] ++
  [decide (12 = i), decide (13 = i), decide (14 = i)] ++ [decide (i < 13), decide (i < 13), !decide (i < 13)]
def spSorts (c : Nat → Addr) : Sp := fun vs H Q _ => ∃ (v : V) (i : Nat) (fs : Option (List (Str × V))), vs = [v] ∧ i < 15 ∧ ErD H v (c i, fs) ∧ ∀ l H', Same H H' → H l = none → H' l = some (.lst ((ansL i).map V.bl)) → Q (.ref l) H'
section
variable {P : Program} {w : World} {K : PySem.W.Frag} {mg : Str → Option Value} {base : Heap} {c : Nat → Addr}
theorem ok_made {f : Addr} {fd : FuncData} (F : Fun K "_law_made" "_law_made" sMade f fd) (T : EC K mg c) : FnOk P w K mg base CX0 3 f fd ["_law_p", "_law_q"] (spMade c) := by
  refine F.ok scMade (fun vs H Q E h => ?_) (fun cdv A outer s H vs Q E hr h => ?_)
  · obtain ⟨a, b, rfl, _⟩ := h
    rfl
  obtain ⟨p, q, rfl, k⟩ := h
  refine ⟨_, pss_cons (ps_set (i := 2) scMade.nd rfl (.inl rfl) (pe_lst (ers_cons (er1 T.e0 hr (pv 0)) (ers_cons (er1 T.e1 hr (pv 0)) (ers_cons (er1 T.e2 hr (pv 0)) (ers_cons (er1 T.e3 hr (pv 0)) (ers_cons (er2 T.e4 hr (pv 0) (pv 1)) (ers_cons (er1 T.e5 hr (pv 0)) (ers_cons (er0 PySem.F.excBase_ValueError T.e6) (ers_cons (er1 T.e7 hr (pv 0)) ers_nil))))))))))
    (pss_one (ps_ret (pe_op op_cat (pv 2) (pe_lst (ers_cons (er1 T.e8 hr (pv 0)) (ers_cons (er1 T.e9 hr (pv 0)) (ers_cons (er0 PySem.F.excBase_ValueError T.e10) (ers_cons (er0 PySem.F.excBase_ValueError T.e11) (ers_cons (er1 T.e12 hr (pv 0)) (ers_cons (er2 T.e13 hr (pv 0) (pv 1)) (ers_cons (er1 T.e14 hr (pv 0)) ers_nil)))))))))))
    , ?_⟩
  refine ⟨p, q, rfl, rfl, fun v1 H1 s1 d1 => ?_⟩
  have l1 : v1.length = 8 := d1.length
  refine ⟨(by rw [l1]; show 8 ≤ sizeLine; decide), fun p1 n1 => ?_⟩
  have t1 := same_new (o := .lst v1) n1
  refine ⟨_, rfl, p, q, rfl, rfl, fun v2 H2 s2 d2 => ?_⟩
  have l2 : v2.length = 7 := d2.length
  refine ⟨(by rw [l2]; show 7 ≤ sizeLine; decide), fun p2 n2 => ?_⟩
  have t2 := same_new (o := .lst v2) n2
  refine ⟨p1, p2, v1, v2, rfl, rfl, t2 _ _ (s2 _ _ upd_same), upd_same, (by rw [l1, l2]; show 15 ≤ sizeLine; decide), fun p3 n3 => ?_⟩
  have t3 := same_new (o := .lst (v1 ++ v2)) n3
  have sA := ((((s1.trans t1).trans s2).trans t2).trans t3)
  refine k p3 (v1 ++ v2) _ sA ((((s1.trans t1).trans s2).trans t2).free n3) upd_same ?_
  exact (((d1.up t1).up s2).up (t2.trans t3)).append (d2.up (t2.trans t3))
end
end K40

set_option Elab.async false
set_option linter.all false
set_option maxRecDepth 100000
set_option maxHeartbeats 4000000
namespace K40
open PySem PySem.Spec PyProof.Rows L2 LL
section
variable {P : Program} {w : World} {K : PySem.W.Frag} {mg : Str → Option Value} {base : Heap} {c : Nat → Addr}

theorem ok_sorts {f : Addr} {fd : FuncData} {k : Nat} (F : Fun K "_law_sorts" "_law_sorts" sSorts f fd) (T : EC K mg c) (mi : mg "isinstance" = none) (mv : mg "ValueError" = none) (mll : mg "LookupError" = none) : FnOk P w K mg base CX0 (k + 1) f fd ["_law_error"] (spSorts c) := by
  refine F.ok scSorts (fun vs H Q E h => ?_) (fun cdv A outer s H vs Q E hr h => ?_)
  · obtain ⟨v, i, fs, rfl, _⟩ := h
    rfl
  obtain ⟨v, i, fs, rfl, hi, d, q⟩ := h
  refine ⟨_, pss_cons (ps_set (i := 1) scSorts.nd rfl (.inl rfl) (pe_lst (pa_cons (is_er T.cg mi (pv 0) (pe_glob (v := .ref (c 0)) (by rfl) T.e0.gC rfl) (.own _)) (pa_cons (is_er T.cg mi (pv 0) (pe_glob (v := .ref (c 1)) (by rfl) T.e1.gC rfl) (.own _)) (pa_cons (is_er T.cg mi (pv 0) (pe_glob (v := .ref (c 2)) (by rfl) T.e2.gC rfl) (.own _)) pa_nil)))))
    (pss_cons (ps_set (i := 1) scSorts.nd rfl (.inl rfl) (pe_op op_cat (pv 1) (pe_lst (pa_cons (is_er T.cg mi (pv 0) (pe_glob (v := .ref (c 3)) (by rfl) T.e3.gC rfl) (.own _)) (pa_cons (is_er T.cg mi (pv 0) (pe_glob (v := .ref (c 4)) (by rfl) T.e4.gC rfl) (.own _)) (pa_cons (is_er T.cg mi (pv 0) (pe_glob (v := .ref (c 5)) (by rfl) T.e5.gC rfl) (.own _)) pa_nil))))))
    (pss_cons (ps_set (i := 1) scSorts.nd rfl (.inl rfl) (pe_op op_cat (pv 1) (pe_lst (pa_cons (is_er T.cg mi (pv 0) (pe_glob (v := .ref (c 6)) (by rfl) T.e6.gC rfl) (.own _)) (pa_cons (is_er T.cg mi (pv 0) (pe_glob (v := .ref (c 7)) (by rfl) T.e7.gC rfl) (.own _)) (pa_cons (is_er T.cg mi (pv 0) (pe_glob (v := .ref (c 8)) (by rfl) T.e8.gC rfl) (.own _)) pa_nil))))))
    (pss_cons (ps_set (i := 1) scSorts.nd rfl (.inl rfl) (pe_op op_cat (pv 1) (pe_lst (pa_cons (is_er T.cg mi (pv 0) (pe_glob (v := .ref (c 9)) (by rfl) T.e9.gC rfl) (.own _)) (pa_cons (is_er T.cg mi (pv 0) (pe_glob (v := .ref (c 10)) (by rfl) T.e10.gC rfl) (.own _)) (pa_cons (is_er T.cg mi (pv 0) (pe_glob (v := .ref (c 11)) (by rfl) T.e11.gC rfl) (.own _)) pa_nil))))))
    (pss_cons (ps_set (i := 1) scSorts.nd rfl (.inl rfl) (pe_op op_cat (pv 1) (pe_lst (pa_cons (is_er T.cg mi (pv 0) (pe_glob (v := .ref (c 12)) (by rfl) T.e12.gC rfl) (.own _)) (pa_cons (is_er T.cg mi (pv 0) (pe_glob (v := .ref (c 13)) (by rfl) T.e13.gC rfl) (.own _)) (pa_cons (is_er T.cg mi (pv 0) (pe_glob (v := .ref (c 14)) (by rfl) T.e14.gC rfl) (.own _)) pa_nil))))))
    (pss_one (ps_ret (pe_op op_cat (pv 1) (pe_lst (pa_cons (is_er T.cg mi (pv 0) (pe_glob (v := .ref (c 15)) (by rfl) T.gP rfl) (.own _)) (pa_cons (is_er T.cg mi (pv 0) (pe_bltn (v := .ty "ValueError") (by rfl) mv (by decide +kernel) rfl) (.ty _)) (pa_cons (is_er T.cg mi (pv 0) (pe_bltn (v := .ty "LookupError") (by rfl) mll (by decide +kernel) rfl) (.ty _)) pa_nil))))))))))), ?_⟩
  refine ⟨v, c i, fs, _, rfl, d, T.erc i hi, T.kit i 0 hi (by decide), v, c i, fs, _, rfl, d, T.erc i hi, T.kit i 1 hi (by decide), v, c i, fs, _, rfl, d, T.erc i hi, T.kit i 2 hi (by decide), (by show 3 ≤ sizeLine; decide), fun p0 n0 => ?_⟩
  have s0 := same_new (o := .lst [V.bl (decide (0 = i)), V.bl (decide (1 = i)), V.bl (decide (2 = i))]) n0
  refine ⟨_, rfl, v, c i, fs, _, rfl, d.up s0, T.erc i hi, T.kit i 3 hi (by decide), v, c i, fs, _, rfl, d.up s0, T.erc i hi, T.kit i 4 hi (by decide), v, c i, fs, _, rfl, d.up s0, T.erc i hi, T.kit i 5 hi (by decide), (by show 3 ≤ sizeLine; decide), fun a1 m1 => ?_⟩
  have t1 := s0.trans (same_new (o := .lst [V.bl (decide (3 = i)), V.bl (decide (4 = i)), V.bl (decide (5 = i))]) m1)
  refine ⟨p0, a1, _, _, rfl, rfl, same_new m1 _ _ upd_same, upd_same, (by show 6 ≤ sizeLine; decide), fun p1 n1 => ?_⟩
  have s1 := t1.trans (same_new (o := .lst ([V.bl (decide (0 = i)), V.bl (decide (1 = i)), V.bl (decide (2 = i))] ++ [V.bl (decide (3 = i)), V.bl (decide (4 = i)), V.bl (decide (5 = i))])) n1)
  refine ⟨_, rfl, v, c i, fs, _, rfl, d.up s1, T.erc i hi, T.kit i 6 hi (by decide), v, c i, fs, _, rfl, d.up s1, T.erc i hi, T.kit i 7 hi (by decide), v, c i, fs, _, rfl, d.up s1, T.erc i hi, T.kit i 8 hi (by decide), (by show 3 ≤ sizeLine; decide), fun a2 m2 => ?_⟩
  have t2 := s1.trans (same_new (o := .lst [V.bl (decide (6 = i)), V.bl (decide (7 = i)), V.bl (decide (8 = i))]) m2)
  refine ⟨p1, a2, _, _, rfl, rfl, same_new m2 _ _ upd_same, upd_same, (by show 9 ≤ sizeLine; decide), fun p2 n2 => ?_⟩
  have s2 := t2.trans (same_new (o := .lst (([V.bl (decide (0 = i)), V.bl (decide (1 = i)), V.bl (decide (2 = i))] ++ [V.bl (decide (3 = i)), V.bl (decide (4 = i)), V.bl (decide (5 = i))]) ++ [V.bl (decide (6 = i)), V.bl (decide (7 = i)), V.bl (decide (8 = i))])) n2)
  refine ⟨_, rfl, v, c i, fs, _, rfl, d.up s2, T.erc i hi, T.kit i 9 hi (by decide), v, c i, fs, _, rfl, d.up s2, T.erc i hi, T.kit i 10 hi (by decide), v, c i, fs, _, rfl, d.up s2, T.erc i hi, T.kit i 11 hi (by decide), (by show 3 ≤ sizeLine; decide), fun a3 m3 => ?_⟩
  have t3 := s2.trans (same_new (o := .lst [V.bl (decide (9 = i)), V.bl (decide (10 = i)), V.bl (decide (11 = i))]) m3)
  refine ⟨p2, a3, _, _, rfl, rfl, same_new m3 _ _ upd_same, upd_same, (by show 12 ≤ sizeLine; decide), fun p3 n3 => ?_⟩
  have s3 := t3.trans (same_new (o := .lst ((([V.bl (decide (0 = i)), V.bl (decide (1 = i)), V.bl (decide (2 = i))] ++ [V.bl (decide (3 = i)), V.bl (decide (4 = i)), V.bl (decide (5 = i))]) ++ [V.bl (decide (6 = i)), V.bl (decide (7 = i)), V.bl (decide (8 = i))]) ++ [V.bl (decide (9 = i)), V.bl (decide (10 = i)), V.bl (decide (11 = i))])) n3)
  refine ⟨_, rfl, v, c i, fs, _, rfl, d.up s3, T.erc i hi, T.kit i 12 hi (by decide), v, c i, fs, _, rfl, d.up s3, T.erc i hi, T.kit i 13 hi (by decide), v, c i, fs, _, rfl, d.up s3, T.erc i hi, T.kit i 14 hi (by decide), (by show 3 ≤ sizeLine; decide), fun a4 m4 => ?_⟩
  have t4 := s3.trans (same_new (o := .lst [V.bl (decide (12 = i)), V.bl (decide (13 = i)), V.bl (decide (14 = i))]) m4)
  refine ⟨p3, a4, _, _, rfl, rfl, same_new m4 _ _ upd_same, upd_same, (by show 15 ≤ sizeLine; decide), fun p4 n4 => ?_⟩
  have s4 := t4.trans (same_new (o := .lst (((([V.bl (decide (0 = i)), V.bl (decide (1 = i)), V.bl (decide (2 = i))] ++ [V.bl (decide (3 = i)), V.bl (decide (4 = i)), V.bl (decide (5 = i))]) ++ [V.bl (decide (6 = i)), V.bl (decide (7 = i)), V.bl (decide (8 = i))]) ++ [V.bl (decide (9 = i)), V.bl (decide (10 = i)), V.bl (decide (11 = i))]) ++ [V.bl (decide (12 = i)), V.bl (decide (13 = i)), V.bl (decide (14 = i))])) n4)
  refine ⟨_, rfl, v, c i, fs, _, rfl, d.up s4, T.erc i hi, T.kP i hi, v, c i, fs, _, rfl, d.up s4, T.erc i hi, T.kV i hi, v, c i, fs, _, rfl, d.up s4, T.erc i hi, T.kL i hi, (by show 3 ≤ sizeLine; decide), fun a5 m5 => ?_⟩
  have t5 := s4.trans (same_new (o := .lst [V.bl (decide (i < 13)), V.bl (decide (i < 13)), V.bl (!decide (i < 13))]) m5)
  refine ⟨p4, a5, _, _, rfl, rfl, same_new m5 _ _ upd_same, upd_same, (by show 18 ≤ sizeLine; decide), fun p5 n5 => ?_⟩
  have s5 := t5.trans (same_new (o := .lst ((((([V.bl (decide (0 = i)), V.bl (decide (1 = i)), V.bl (decide (2 = i))] ++ [V.bl (decide (3 = i)), V.bl (decide (4 = i)), V.bl (decide (5 = i))]) ++ [V.bl (decide (6 = i)), V.bl (decide (7 = i)), V.bl (decide (8 = i))]) ++ [V.bl (decide (9 = i)), V.bl (decide (10 = i)), V.bl (decide (11 = i))]) ++ [V.bl (decide (12 = i)), V.bl (decide (13 = i)), V.bl (decide (14 = i))]) ++ [V.bl (decide (i < 13)), V.bl (decide (i < 13)), V.bl (!decide (i < 13))])) n5)
  exact q p5 _ s5 (t5.free n5) upd_same
end
end K40

set_option Elab.async false
set_option linter.all false
set_option maxRecDepth 100000
set_option maxHeartbeats 4000000
namespace LL
open PySem PySem.Spec PyProof.Rows L2
/-- small data -/
def Sm (d : PyData) : Prop := d.showable = true ∧ d.depth ≤ 10 ∧ d.shown.length ≤ 100
def smB (d : PyData) : Bool := d.showable && decide (d.depth ≤ 10) && decide (d.shown.length ≤ 100)
theorem sm_of {d : PyData} (h : smB d = true) : Sm d := by
  unfold smB at h
  simp only [Bool.and_eq_true, decide_eq_true_eq] at h
  exact ⟨h.1.1, h.1.2, h.2⟩
theorem sm_depth : ∀ ds : List PyData, (∀ d ∈ ds, Sm d) → PyData.depthAll ds ≤ 10
  | [], _ => Nat.zero_le _
  | d :: ds, h => by
    have h1 := (h d List.mem_cons_self).2.1
    have h2 := sm_depth ds fun x hx => h x (List.mem_cons_of_mem _ hx)
    rw [PyData.depthAll]
    omega
theorem sm_sum : ∀ ds : List PyData, (∀ d ∈ ds, Sm d) → ((PyData.shownAll ds).map (·.length)).sum ≤ 100 * ds.length
  | [], _ => by rw [PyData.shownAll_nil]; exact Nat.zero_le _
  | d :: ds, h => by
    have h1 := (h d List.mem_cons_self).2.2
    have h2 := sm_sum ds fun x hx => h x (List.mem_cons_of_mem _ hx)
    rw [PyData.shownAll_cons, List.map_cons, List.sum_cons, List.length_cons]
    omega
theorem sm_list {ds : List PyData} (h : ∀ d ∈ ds, Sm d) (hl : ds.length ≤ 100) : (PyData.list ds).showable = true ∧ (PyData.list ds).depth ≤ 60 ∧ (PyData.list ds).shown.length ≤ sizeLine := by
  refine ⟨?_, ?_, ?_⟩
  · rw [PyData.showable]
    exact PySem.Spec.showableAll_of fun x hx => (h x hx).1
  · have := sm_depth ds h
    rw [PyData.depth]
    omega
  · have h1 := sm_sum ds h
    have h2 := listText_len_le (PyData.shownAll ds)
    rw [PyData.shown_list, ← listText_eq_join]
    rw [PyData.shownAll_length] at h2
    rw [sizeLine_eq]
    omega
end LL
namespace K40
open PySem PySem.Spec PyProof.Rows L2 LL
abbrev sLaw : Stmt := topS 30
abbrev lawN : List Str := ["_law_script", "_law_bag_here", "_law_bounds", "_law_turn", "_law_p", "_law_q", "_law_errors", "_law_kept", "_law_spot", "_law_error", "_law_is_plan", "_law_at"]
theorem scLaw : FnScope lawN ["_law_script"] (defScope sLaw) := ⟨rfl, rfl, rfl, by decide +kernel, rfl, by decide +kernel, by decide +kernel⟩
def qD : List PyData := oddD ++ [.str "ring", .int (10 ^ (30 : Int).toNat), .tuple [.tuple [.int 0, .int 1], .none]]
theorem qD_sm : ∀ d ∈ qD, Sm d := by
  have h : qD.all smB = true := by decide +kernel
  intro d hd
  exact sm_of (List.all_eq_true.mp h d hd)
theorem dp_bls {K : PySem.W.Frag} {H : Hp} : ∀ bs : List Bool, DpAll K H (bs.map V.bl) (bs.map PyData.bool)
  | [] => .nil
  | b :: bs => .cons (.bl b) (dp_bls bs)
theorem ans_ok : ∀ i, i < 15 → SeqAt.shaped (.list ((ansL i).map .bool)) = true ∧ PyData.eqv (.list ((ansL i).map .bool)) (.list ((ansL i).map .bool)) = true := by
  have h : ∀ i, i < 15 → (SeqAt.shaped (.list ((ansL i).map .bool)) && PyData.eqv (.list ((ansL i).map .bool)) (.list ((ansL i).map .bool))) = true := by decide +kernel
  exact fun i hi => Bool.and_eq_true_iff.mp (h i hi)
/-- the defs and names that the law uses -/
structure LT (K : PySem.W.Frag) (mg : Str → Option Value) (c : Nat → Addr) (fB fO fP fM fS : Addr) (dB dO dP dM dS : FuncData) : Prop where
  ec : EC K mg c
  gB : mg "_law_bag" = some (.ref fB)
  gO : mg "_law_odd" = some (.ref fO)
  gP : mg "_law_pick" = some (.ref fP)
  gM : mg "_law_made" = some (.ref fM)
  gS : mg "_law_sorts" = some (.ref fS)
  kB : PySem.W.keepIn K (.ref fB) = true
  kO : PySem.W.keepIn K (.ref fO) = true
  kP : PySem.W.keepIn K (.ref fP) = true
  kM : PySem.W.keepIn K (.ref fM) = true
  kS : PySem.W.keepIn K (.ref fS) = true
  bB : Binds K dB ["_law_script"] []
  bO : Binds K dO ["_law_bag_here"] []
  bP : Binds K dP ["_law_bag_here", "_law_items"] []
  bM : Binds K dM ["_law_p", "_law_q"] []
  bS : Binds K dS ["_law_error"] []
  mAPART : ∃ t, mg "MAX_APART" = some (.int 8 t)
  mCOURSES : ∃ t, mg "MAX_COURSES" = some (.int 60 t)
  mEDITS : ∃ t, mg "MAX_EDITS" = some (.int 20 t)
  mPAIRS : ∃ t, mg "MAX_PAIRS" = some (.int 1 t)
  mTASKS : ∃ t, mg "MAX_TASKS" = some (.int 5 t)
  mWORKERS : ∃ t, mg "MAX_WORKERS" = some (.int 3 t)
  mrepr : mg "repr" = none
  mrange : mg "range" = none
  menum : mg "enumerate" = none
def spLaw (K : PySem.W.Frag) : Sp := fun vs H Q _ => ∃ (a : Addr) (ns : List Int), vs = [.ref a] ∧ SqL K H a (ns.map V.int) ∧ ns.length ≤ 63 ∧ ∀ H', Q (.bl true) H'
section
variable {P : Program} {w : World} {K : PySem.W.Frag} {mg : Str → Option Value} {base : Heap} {c : Nat → Addr} {fB fO fP fM fS : Addr} {dB dO dP dM dS : FuncData}
theorem ok_law {f : Addr} {fd : FuncData} (F : Fun K "law" "law" sLaw f fd) (T : LT K mg c fB fO fP fM fS dB dO dP dM dS) (sm : ∃ mm, base.Ns sysModules mm)
    (GB : FnOk P w K mg base CX0 1 fB dB ["_law_script"] (spBag K)) (GO : FnOk P w K mg base CX0 3 fO dO ["_law_bag_here"] (spOdd K)) (GP : FnOk P w K mg base CX0 2 fP dP ["_law_bag_here", "_law_items"] (spPick K))
    (GM : FnOk P w K mg base CX0 3 fM dM ["_law_p", "_law_q"] (spMade c)) (GS : FnOk P w K mg base CX0 1 fS dS ["_law_error"] (spSorts c)) :
    GOk P w K mg base CX0 4 f fd ["_law_script"] (spLaw K) := by
  obtain ⟨tAPART, mAPART⟩ := T.mAPART
  obtain ⟨tCOURSES, mCOURSES⟩ := T.mCOURSES
  obtain ⟨tEDITS, mEDITS⟩ := T.mEDITS
  obtain ⟨tPAIRS, mPAIRS⟩ := T.mPAIRS
  obtain ⟨tTASKS, mTASKS⟩ := T.mTASKS
  obtain ⟨tWORKERS, mWORKERS⟩ := T.mWORKERS
  refine gok_of F scLaw (fun vs H Q E h => ?_) (fun cdv A outer s H vs Q E gd hr h => ?_)
  · obtain ⟨a, ns, rfl, _⟩ := h
    rfl
  obtain ⟨a, ns, rfl, hS, hlen, q⟩ := h
  have hu : A.units + 3 + 64 < cLine := hr.units
  refine ⟨_, pss_cons (ps_set (i := 1) scLaw.nd rfl (.inl rfl) (pe_call GB (hr.mono (by decide)) (by rfl) T.gB T.kB T.bB .nil pass0 (pa_cons (pv 0) pa_nil)))
    (pss_cons (ps_set (i := 2) scLaw.nd rfl (.inl rfl) (pe_lst (pa_cons (pe_glob (v := .int 8) (by rfl) mAPART ⟨_, rfl⟩) (pa_cons (pe_glob (v := .int 60) (by rfl) mCOURSES ⟨_, rfl⟩) (pa_cons (pe_glob (v := .int 20) (by rfl) mEDITS ⟨_, rfl⟩) (pa_cons (pe_glob (v := .int 1) (by rfl) mPAIRS ⟨_, rfl⟩) (pa_cons (pe_glob (v := .int 5) (by rfl) mTASKS ⟨_, rfl⟩) (pa_cons (pe_glob (v := .int 3) (by rfl) mWORKERS ⟨_, rfl⟩) pa_nil))))))))
    (pss_cons (ps_if (pt_cmpR op_ne (pe_callB (call_repr gd hu sm) (by rfl) T.mrepr (by decide +kernel) (pa_cons (pv 2) pa_nil)) (pe_callB (call_repr gd hu sm) (by rfl) T.mrepr (by decide +kernel) (pa_cons (lit_lst (lits_cons lit_int (lits_cons lit_int (lits_cons lit_int (lits_cons lit_int (lits_cons lit_int (lits_cons lit_int lits_nil))))))) pa_nil)) (nomark _)) (pss_one (ps_ret pe_bl)) pss_nil)
    (pss_cons (ps_for PassesOwn.never rfl (pi_range1 rfl T.mrange (pa_cons pe_int pa_nil)) (pg_name (i := 3) scLaw.nd rfl (.inl rfl))
      (pss_cons (ps_par (i := 4) (j := 5) (by rfl) scLaw.nd rfl rfl (by decide) rfl rfl (pa_cons (pe_call GO hr (by rfl) T.gO T.kO T.bO .nil pass0 (pa_cons (pv 1) pa_nil))
          (pa_cons (pe_call GP (hr.mono (by decide)) (by rfl) T.gP T.kP T.bP .nil pass0 (pa_cons (pv 1) (pa_cons (pe_lst (pa_cons (pe_call GO hr (by rfl) T.gO T.kO T.bO .nil pass0 (pa_cons (pv 1) pa_nil)) (lits_cons lit_str (lits_cons lit_pow (lits_cons (lit_tup (lits_cons (lit_tup (lits_cons lit_int (lits_cons lit_int lits_nil))) (lits_cons lit_non lits_nil))) lits_nil))))) pa_nil))) pa_nil)) (by rfl))
      (pss_cons (ps_set (i := 6) scLaw.nd rfl (.inl rfl) (pe_call GM hr (by rfl) T.gM T.kM T.bM .nil pass0 (pa_cons (pv 4) (pa_cons (pv 5) pa_nil))))
      (pss_cons (ps_set (i := 7) scLaw.nd rfl (.inl rfl) (pe_lst (pa_cons (pe_fl (pe_ix ix_list (pv 6) pe_int (fun _ _ => rfl))) (pa_cons (pe_fl (pe_ix ix_list (pv 6) pe_int (fun _ _ => rfl))) (pa_cons (pe_fl (pe_ix ix_list (pv 6) pe_int (fun _ _ => rfl))) (pa_cons (pe_fl (pe_ix ix_list (pv 6) pe_int (fun _ _ => rfl))) (pa_cons (pe_fl (pe_ix ix_list (pv 6) pe_int (fun _ _ => rfl))) (pa_cons (pe_fl (pe_ix ix_list (pv 6) pe_int (fun _ _ => rfl))) pa_nil))))))))
      (pss_cons (ps_set (i := 7) scLaw.nd rfl (.inl rfl) (pe_op op_cat (pv 7) (pe_lst (pa_cons (pe_fl (pe_ix ix_list (pv 6) pe_int (fun _ _ => rfl))) (pa_cons (pe_fl (pe_ix ix_list (pv 6) pe_int (fun _ _ => rfl))) (pa_cons (pe_fl (pe_ix ix_list (pv 6) pe_int (fun _ _ => rfl))) (pa_cons (pe_fl (pe_ix ix_list (pv 6) pe_int (fun _ _ => rfl))) (pa_cons (pe_fl (pe_ix ix_list (pv 6) pe_int (fun _ _ => rfl))) pa_nil))))))))
      (pss_cons (ps_set (i := 7) scLaw.nd rfl (.inl rfl) (pe_op op_cat (pv 7) (pe_lst (pa_cons (pe_fl (pe_ix ix_list (pv 6) pe_int (fun _ _ => rfl))) (pa_cons (pe_fl (pe_ix ix_list (pv 6) pe_int (fun _ _ => rfl))) (pa_cons (pe_fl (pe_ix ix_list (pv 6) pe_int (fun _ _ => rfl))) pa_nil))))))
      (pss_cons (ps_if (pt_cmpR op_ne (pe_callB (call_repr gd hu sm) (by rfl) T.mrepr (by decide +kernel) (pa_cons (pv 7) pa_nil)) (pe_callB (call_repr gd hu sm) (by rfl) T.mrepr (by decide +kernel) (pa_cons (pe_lst (pa_cons (pv 4) (pa_cons (pv 4) (pa_cons (pv 4) (pa_cons (pv 4) (pa_cons (pv 4) (pa_cons (pv 5) (pa_cons (pv 4) (pa_cons (pv 4) (pa_cons (pv 4) (pa_cons (pv 4) (pa_cons (pv 4) (pa_cons (pv 4) (pa_cons (pv 5) (pa_cons (pv 4) pa_nil))))))))))))))) pa_nil)) (nomark _)) (pss_one (ps_ret pe_bl)) pss_nil)
      (pss_one (ps_for PassesOwn.never rfl (pi_enum (by rfl) T.menum (pa_cons (pv 6) pa_nil)) (pg_tup rfl (pgs_cons (pg_name (i := 8) scLaw.nd rfl (.inr rfl)) (pgs_cons (pg_name (i := 9) scLaw.nd rfl (.inl rfl)) pgs_nil)))
        (pss_cons (ps_set (i := 10) scLaw.nd rfl (.inl rfl) (pe_cmpR op_lt (pv 8) pe_int (nomark _)))
        (pss_one (ps_if (pt_cmpR (op_neD hr.units) (pe_call GS (hr.mono (by decide)) (by rfl) T.gS T.kS T.bS .nil pass0 (pa_cons (pv 9) pa_nil)) (pe_op op_cat (pe_lc (own := [("_law_at", 11)]) (g := gName 11) (tt := tYes) rfl scLaw.nd (pi_range1 rfl T.mrange (pa_cons pe_int pa_nil)) (blkOk_by (own := [("_law_at", 11)]) (N := lawN) (sc := defScope sLaw) (by decide +kernel)) (fun _ _ _ _ _ => pg_name (i := 11) scLaw.nd rfl (Or.inl rfl)) (fun _ _ _ _ _ => pts_nil) (fun _ _ _ _ _ => pe_cmpR op_eq (pv 11) (pv 8) (nomark _))) (pe_lst (pa_cons (pv 10) (pa_cons (pv 10) (pa_cons (pe_not (pv 10)) pa_nil))))) (nomark _)) (pss_one (ps_ret pe_bl)) pss_nil))))))))))))
    (pss_one (ps_ret pe_bl))))), ?_⟩
  refine ⟨.ref a, rfl, a, ns, rfl, hS, hlen, fun H1 b s1 nb hb => ?_⟩
  refine ⟨(by show 6 ≤ sizeLine; decide), fun p np => ?_⟩
  have s2 := same_new (o := .lst [V.int 8, .int 60, .int 20, .int 1, .int 5, .int 3]) np
  have bd : ∀ d ∈ [PyData.int 8, .int 60, .int 20, .int 1, .int 5, .int 3], Sm d := fun d hd => sm_of (List.all_eq_true.mp (show [PyData.int 8, .int 60, .int 20, .int 1, .int 5, .int 3].all smB = true by decide +kernel) d hd)
  obtain ⟨z1, z2, z3⟩ := sm_list bd (by decide)
  refine ⟨.ref p, rfl, .ref p, _, rfl, .lst (SqL.of upd_same) (.cons (.int 8) (.cons (.int 60) (.cons (.int 20) (.cons (.int 1) (.cons (.int 5) (.cons (.int 3) .nil)))))), z1, z2, z3, ?_⟩
  intro v H3 s3 f3
  refine ⟨v, _, rfl, f3.dat, z1, z2, z3, rfl, _, rfl, iteNS rfl ?_⟩
  have hb3 : BagAt H3 b := hb.up (s2.trans s3)
  refine ⟨5, rfl, by decide, by decide, ?_⟩
  refine for_range (lo := 0) (n := 5) (fun _ σ H' => ∃ v3 v4 v5 v6 v7 v8 v9 v10 v11 : Option V, σ = [some (.ref a), some (.ref b), some (.ref p), v3, v4, v5, v6, v7, v8, v9, v10, v11] ∧ BagAt H' b) ⟨_, _, _, _, _, _, _, _, _, rfl, hb3⟩ ?_ ?_
  rotate_left
  · rintro σ H' ⟨v3, v4, v5, v6, v7, v8, v9, v10, v11, rfl, _⟩
    exact q _
  rintro i5 σ H4 hi5 ⟨v3, v4, v5, v6, v7, v8, v9, v10, v11, rfl, hb4⟩
  -- the two values
  refine ⟨_, rfl, b, rfl, hb4, fun vp dp H5 hdp hDp hb5 k5 => ?_⟩
  refine ⟨_, rfl, _, rfl, b, rfl, hb5, fun x dx H6 hdx hDx hb6 k6 vs H7 s7 f7 => ?_⟩
  have l7 : vs.length = 3 := f7.dat.length
  refine ⟨(by rw [List.length_cons, l7]; show 4 ≤ sizeLine; decide), fun l nl => ?_⟩
  have s8 := same_new (o := .lst (x :: vs)) nl
  have nlb : l ≠ b := fun z => hb6.ne (by rw [← z]; exact s7.free nl)
  have hb8 := (hb6.up s7).up s8
  refine ⟨b, l, x :: vs, rfl, hb8, .inl (.inl (wo_at upd_same nlb)), by rw [List.length_cons]; omega, by rw [List.length_cons, l7]; decide, fun vq o hq ho => ?_⟩
  have hA : DqAll K (wo (upd H7 l (.lst (x :: vs))) b) (x :: vs) (dx :: [.str "ring", .int (10 ^ (30 : Int).toNat), .tuple [.tuple [.int 0, .int 1], .none]]) :=
    .cons (hDx.up (wo_up (s7.trans s8))) ((f7.sep b hb6.ne).up (wo_up s8))
  obtain ⟨dq, hdq, hDq⟩ := hA.mem hq
  have smp : Sm dp := qD_sm dp (List.mem_append_left _ hdp)
  have smq : Sm dq := qD_sm dq (by
    rcases List.mem_cons.mp hdq with rfl | z
    · exact List.mem_append_left _ hdx
    · exact List.mem_append_right _ z)
  have kAll : But b H5 (upd (upd H7 l (.lst (x :: vs))) b o) := (k6.trans (But.of (s7.trans s8))).trans But.upd
  have hP : Dq K (wo (upd (upd H7 l (.lst (x :: vs))) b o) b) vp dp := hDp.up kAll.wo
  have hQ : Dq K (wo (upd (upd H7 l (.lst (x :: vs))) b o) b) vq dq := by rw [wo_upd]; exact hDq
  have hb9 : BagAt (upd (upd H7 l (.lst (x :: vs))) b o) b := ⟨o, upd_same, ho⟩
  generalize upd (upd H7 l (.lst (x :: vs))) b o = H9 at hP hQ hb9 ⊢
  refine ⟨vp, vq, rfl, ?_⟩
  -- the errors
  refine ⟨_, rfl, _, rfl, vp, vq, rfl, fun l es HA sA nlA el er => ?_⟩
  obtain ⟨_, hv0, x0, rfl, y0, g0, k0⟩ := er.get 0 rfl
  obtain ⟨_, hv1, x1, rfl, y1, g1, k1⟩ := er.get 1 rfl
  obtain ⟨_, hv2, x2, rfl, y2, g2, k2⟩ := er.get 2 rfl
  obtain ⟨_, hv3, x3, rfl, y3, g3, k3⟩ := er.get 3 rfl
  obtain ⟨_, hv4, x4, rfl, y4, g4, k4⟩ := er.get 4 rfl
  obtain ⟨_, hv5, x5, rfl, y5, g5, k5⟩ := er.get 5 rfl
  obtain ⟨_, hv7, x7, rfl, y7, g7, k7⟩ := er.get 7 rfl
  obtain ⟨_, hv8, x8, rfl, y8, g8, k8⟩ := er.get 8 rfl
  obtain ⟨_, hv9, x9, rfl, y9, g9, k9⟩ := er.get 9 rfl
  obtain ⟨_, hv12, x12, rfl, y12, g12, k12⟩ := er.get 12 rfl
  obtain ⟨_, hv13, x13, rfl, y13, g13, k13⟩ := er.get 13 rfl
  obtain ⟨_, hv14, x14, rfl, y14, g14, k14⟩ := er.get 14 rfl
  have lk0value : List.lookup ("value" : Str) [(("value" : Str), vp)] = some vp := by rw [lookup_put]; rw [if_pos rfl]
  have lk1index : List.lookup ("index" : Str) [(("index" : Str), vp)] = some vp := by rw [lookup_put]; rw [if_pos rfl]
  have lk2place : List.lookup ("place" : Str) [(("place" : Str), vp)] = some vp := by rw [lookup_put]; rw [if_pos rfl]
  have lk3most : List.lookup ("most" : Str) [(("most" : Str), vp)] = some vp := by rw [lookup_put]; rw [if_pos rfl]
  have lk4number : List.lookup ("number" : Str) [(("word" : Str), vq), (("number" : Str), vp)] = some vp := by rw [lookup_put]; rw [if_neg (by decide +kernel), lookup_put, if_pos rfl]
  have lk4word : List.lookup ("word" : Str) [(("word" : Str), vq), (("number" : Str), vp)] = some vq := by rw [lookup_put]; rw [if_pos rfl]
  have lk5line : List.lookup ("line" : Str) [(("line" : Str), vp)] = some vp := by rw [lookup_put]; rw [if_pos rfl]
  have lk7durations : List.lookup ("durations" : Str) [(("durations" : Str), vp)] = some vp := by rw [lookup_put]; rw [if_pos rfl]
  have lk8many : List.lookup ("many" : Str) [(("many" : Str), vp)] = some vp := by rw [lookup_put]; rw [if_pos rfl]
  have lk9group : List.lookup ("group" : Str) [(("group" : Str), vp)] = some vp := by rw [lookup_put]; rw [if_pos rfl]
  have lk12limit : List.lookup ("limit" : Str) [(("limit" : Str), vp)] = some vp := by rw [lookup_put]; rw [if_pos rfl]
  have lk13before : List.lookup ("before" : Str) [(("behind" : Str), vq), (("before" : Str), vp)] = some vp := by rw [lookup_put]; rw [if_neg (by decide +kernel), lookup_put, if_pos rfl]
  have lk13behind : List.lookup ("behind" : Str) [(("behind" : Str), vq), (("before" : Str), vp)] = some vq := by rw [lookup_put]; rw [if_pos rfl]
  have lk14number : List.lookup ("number" : Str) [(("number" : Str), vp)] = some vp := by rw [lookup_put]; rw [if_pos rfl]
  refine ⟨_, rfl, l, es, 0, _, rfl, rfl, SqL.of (Same.refl HA _ _ el), atI_nat (j := 0) hv0, x0, c 0, y0, _, vp, rfl, T.ec.erc 0 (by decide), T.ec.e0.no, Same.refl HA _ _ g0, Same.refl HA _ _ k0, lk0value, _, rfl, l, es, 1, _, rfl, rfl, SqL.of (Same.refl HA _ _ el), atI_nat (j := 1) hv1, x1, c 1, y1, _, vp, rfl, T.ec.erc 1 (by decide), T.ec.e1.no, Same.refl HA _ _ g1, Same.refl HA _ _ k1, lk1index, _, rfl, l, es, 2, _, rfl, rfl, SqL.of (Same.refl HA _ _ el), atI_nat (j := 2) hv2, x2, c 2, y2, _, vp, rfl, T.ec.erc 2 (by decide), T.ec.e2.no, Same.refl HA _ _ g2, Same.refl HA _ _ k2, lk2place, _, rfl, l, es, 3, _, rfl, rfl, SqL.of (Same.refl HA _ _ el), atI_nat (j := 3) hv3, x3, c 3, y3, _, vp, rfl, T.ec.erc 3 (by decide), T.ec.e3.no, Same.refl HA _ _ g3, Same.refl HA _ _ k3, lk3most, _, rfl, l, es, 4, _, rfl, rfl, SqL.of (Same.refl HA _ _ el), atI_nat (j := 4) hv4, x4, c 4, y4, _, vp, rfl, T.ec.erc 4 (by decide), T.ec.e4.no, Same.refl HA _ _ g4, Same.refl HA _ _ k4, lk4number, _, rfl, l, es, 4, _, rfl, rfl, SqL.of (Same.refl HA _ _ el), atI_nat (j := 4) hv4, x4, c 4, y4, _, vq, rfl, T.ec.erc 4 (by decide), T.ec.e4.no2, Same.refl HA _ _ g4, Same.refl HA _ _ k4, lk4word, (by show 6 ≤ sizeLine; decide), fun a1 m1 => ?_⟩
  have t1 := same_new (o := .lst [vp, vp, vp, vp, vp, vq]) m1
  refine ⟨_, rfl, _, rfl, l, es, 5, _, rfl, rfl, SqL.of (t1 _ _ el), atI_nat (j := 5) hv5, x5, c 5, y5, _, vp, rfl, T.ec.erc 5 (by decide), T.ec.e5.no, t1 _ _ g5, t1 _ _ k5, lk5line, _, rfl, l, es, 7, _, rfl, rfl, SqL.of (t1 _ _ el), atI_nat (j := 7) hv7, x7, c 7, y7, _, vp, rfl, T.ec.erc 7 (by decide), T.ec.e7.no, t1 _ _ g7, t1 _ _ k7, lk7durations, _, rfl, l, es, 8, _, rfl, rfl, SqL.of (t1 _ _ el), atI_nat (j := 8) hv8, x8, c 8, y8, _, vp, rfl, T.ec.erc 8 (by decide), T.ec.e8.no, t1 _ _ g8, t1 _ _ k8, lk8many, _, rfl, l, es, 9, _, rfl, rfl, SqL.of (t1 _ _ el), atI_nat (j := 9) hv9, x9, c 9, y9, _, vp, rfl, T.ec.erc 9 (by decide), T.ec.e9.no, t1 _ _ g9, t1 _ _ k9, lk9group, _, rfl, l, es, 12, _, rfl, rfl, SqL.of (t1 _ _ el), atI_nat (j := 12) hv12, x12, c 12, y12, _, vp, rfl, T.ec.erc 12 (by decide), T.ec.e12.no, t1 _ _ g12, t1 _ _ k12, lk12limit, (by show 5 ≤ sizeLine; decide), fun a2 m2 => ?_⟩
  have t2 := t1.trans (same_new (o := .lst [vp, vp, vp, vp, vp]) m2)
  refine ⟨a1, a2, _, _, rfl, rfl, same_new m2 _ _ upd_same, upd_same, (by show 11 ≤ sizeLine; decide), fun a3 m3 => ?_⟩
  have t3 := t2.trans (same_new (o := .lst ([vp, vp, vp, vp, vp, vq] ++ [vp, vp, vp, vp, vp])) m3)
  refine ⟨_, rfl, _, rfl, l, es, 13, _, rfl, rfl, SqL.of (t3 _ _ el), atI_nat (j := 13) hv13, x13, c 13, y13, _, vp, rfl, T.ec.erc 13 (by decide), T.ec.e13.no, t3 _ _ g13, t3 _ _ k13, lk13before, _, rfl, l, es, 13, _, rfl, rfl, SqL.of (t3 _ _ el), atI_nat (j := 13) hv13, x13, c 13, y13, _, vq, rfl, T.ec.erc 13 (by decide), T.ec.e13.no2, t3 _ _ g13, t3 _ _ k13, lk13behind, _, rfl, l, es, 14, _, rfl, rfl, SqL.of (t3 _ _ el), atI_nat (j := 14) hv14, x14, c 14, y14, _, vp, rfl, T.ec.erc 14 (by decide), T.ec.e14.no, t3 _ _ g14, t3 _ _ k14, lk14number, (by show 3 ≤ sizeLine; decide), fun a4 m4 => ?_⟩
  have t4 := t3.trans (same_new (o := .lst [vp, vq, vp]) m4)
  refine ⟨a3, a4, _, _, rfl, rfl, same_new m4 _ _ upd_same, upd_same, (by show 14 ≤ sizeLine; decide), fun a5 m5 => ?_⟩
  have t5 := t4.trans (same_new (o := .lst (([vp, vp, vp, vp, vp, vq] ++ [vp, vp, vp, vp, vp]) ++ [vp, vq, vp])) m5)
  have smL : ∀ d ∈ [dp, dp, dp, dp, dp, dq, dp, dp, dp, dp, dp, dp, dq, dp], Sm d := by
    intro d hd
    have z : d = dp ∨ d = dq := by
      rcases (by simpa using hd : d = dp ∨ d = dq ∨ d = dp ∨ d = dq ∨ d = dp) with h | h | h | h | h
      all_goals first | exact .inl h | exact .inr h
    rcases z with z | z
    · rw [z]; exact smp
    · rw [z]; exact smq
  obtain ⟨w1, w2, w3⟩ := sm_list smL (by show 14 ≤ 100; decide)
  have zP := (hP.up wo_same).up (sA.trans t5)
  have zQ := (hQ.up wo_same).up (sA.trans t5)
  refine ⟨_, rfl, .ref a5, .list [dp, dp, dp, dp, dp, dq, dp, dp, dp, dp, dp, dp, dq, dp], rfl, .lst (SqL.of upd_same) (.cons zP (.cons zP (.cons zP (.cons zP (.cons zP (.cons zQ (.cons zP (.cons zP (.cons zP (.cons zP (.cons zP (.cons zP (.cons zQ (.cons zP .nil)))))))))))))), w1, w2, w3, ?_⟩
  refine ⟨_, rfl, _, rfl, _, rfl, _, rfl, _, rfl, _, rfl, _, rfl, _, rfl, _, rfl, _, rfl, _, rfl, _, rfl, _, rfl, _, rfl, (by show 14 ≤ sizeLine; decide), fun a6 m6 => ?_⟩
  have t6 := t5.trans (same_new (o := .lst [vp, vp, vp, vp, vp, vq, vp, vp, vp, vp, vp, vp, vq, vp]) m6)
  have uP := zP.up (same_new (o := .lst [vp, vp, vp, vp, vp, vq, vp, vp, vp, vp, vp, vp, vq, vp]) m6)
  have uQ := zQ.up (same_new (o := .lst [vp, vp, vp, vp, vp, vq, vp, vp, vp, vp, vp, vp, vq, vp]) m6)
  refine ⟨.ref a6, .list [dp, dp, dp, dp, dp, dq, dp, dp, dp, dp, dp, dp, dq, dp], rfl, .lst (SqL.of upd_same) (.cons uP (.cons uP (.cons uP (.cons uP (.cons uP (.cons uQ (.cons uP (.cons uP (.cons uP (.cons uP (.cons uP (.cons uP (.cons uQ (.cons uP .nil)))))))))))))), w1, w2, w3, rfl, _, rfl, iteNS rfl ?_⟩
  have hbA := (hb9.up sA).up t6
  have erA := er.up t6
  have elA := t6 _ _ el
  generalize hHB : upd _ a6 (HO.lst [vp, vp, vp, vp, vp, vq, vp, vp, vp, vp, vp, vp, vq, vp]) = HB at hbA erA elA ⊢
  clear hHB
  refine ⟨_, rfl, l, es, rfl, SqL.of elA, ?_⟩
  have les : es.length = 15 := er.length
  refine ⟨fun i m σ H' => ∃ u8 u9 u10 : Option V, σ = [some (.ref a), some (.ref b), some (.ref p), some (.int (0 + (i5 : Int))), some vp, some vq, some (.ref l), some (.ref a5), u8, u9, u10, v11] ∧ i + m = 15 ∧ Same HB H', ⟨15, _, _, _, rfl, rfl, Same.refl _⟩, ?_⟩
  rintro j m σ HC ⟨u8, u9, u10, rfl, jm, sC⟩
  have elC := sC _ _ elA
  by_cases hj : j < 15
  · obtain ⟨cj, hcj, fsj, hcf⟩ : ∃ cj, (specs c vp vq)[j]? = some cj ∧ ∃ fs, cj = (c j, fs) := by
      have h : ∀ k, k < 15 → ((specs c vp vq)[k]?.map Prod.fst) = some (c k) := by
        intro k hk
        match k, hk with
        | 0, _ | 1, _ | 2, _ | 3, _ | 4, _ | 5, _ | 6, _ | 7, _ | 8, _ | 9, _ | 10, _ | 11, _ | 12, _ | 13, _ | 14, _ => rfl
      obtain ⟨cj, h1, h2⟩ := Option.map_eq_some_iff.mp (h j hj)
      exact ⟨cj, h1, cj.2, by rw [← h2]⟩
    subst hcf
    obtain ⟨xj, hxj, dj⟩ := (er.up (Same.refl HA)).get j hcj
    have djC : ErD HC xj (c j, fsj) := by
      obtain ⟨xj', hx', dj'⟩ := (erA.up sC).get j hcj
      have e : xj' = xj := Option.some.inj (hx'.symm.trans hxj)
      rw [← e]
      exact dj'
    refine .inr ⟨⟨es, xj, SqL.of elC, hxj⟩, fun σ' H' => ∃ u8 u9 u10 : Option V, σ' = [some (.ref a), some (.ref b), some (.ref p), some (.int (0 + (i5 : Int))), some vp, some vq, some (.ref l), some (.ref a5), u8, u9, u10, v11] ∧ Same HB H', fun σ' H' hN => ?_, fun v H' hy => ?_⟩
    · obtain ⟨w8, w9, w10, e, s'⟩ := hN
      exact ⟨m - 1, by omega, w8, w9, w10, e, by omega, s'⟩
    · obtain ⟨T', x', rfl, nT, rfl, fx⟩ := hy
      have ex : x' = xj := Option.some.inj ((fx _ (SqL.of elC)).symm.trans hxj)
      subst ex
      have sT := same_new (o := .tup [.int (j : Nat), x']) nT
      refine ⟨T', [.int (j : Nat), x'], rfl, .inl (.inl upd_same), rfl, .int (j : Nat), [x'], rfl, x', [], rfl, rfl, ?_⟩
      refine ⟨_, rfl, _, _, rfl, rfl, ?_⟩
      refine ⟨_, rfl, x', j, fsj, rfl, hj, djC.up sT, fun ls HD sD nD eD => ?_⟩
      refine ⟨15, rfl, by decide, by decide, fun D nDD => ?_⟩
      refine lc_range (lo := 0) (n := 15) (fun k H' => Same HD H' ∧ H' D = some (.lst ((List.range k).map fun z : Nat => V.bl (decide (V.int (0 + (z : Int)) = V.int (j : Int)))))) ⟨same_new nDD, upd_same⟩ ?_ ?_
      · rintro k H' hk ⟨sK, eK⟩
        refine ⟨rfl, ?_⟩
        unfold tYes
        dsimp only
        rw [if_pos rfl]
        refine ⟨_, rfl, _, rfl, rfl, _, eK, ?_, ?_, ?_⟩
        · rw [List.length_map, List.length_range]
          exact small1000 (by omega)
        · intro b' o' e'
          rw [upd_ne (ne_of_none e' nDD)]
          exact sK b' o' e'
        · rw [upd_same, List.range_succ, List.map_append]
          rfl
      · rintro H' ⟨sK, eK⟩
        refine ⟨_, rfl, _, rfl, _, rfl, _, rfl, (by show 3 ≤ sizeLine; decide), fun q2 m2' => ?_⟩
        have sQ := same_new (o := .lst [V.bl (decide ((j : Int) < 13)), V.bl (decide ((j : Int) < 13)), V.bl (!decide ((j : Int) < 13))]) m2'
        refine ⟨D, q2, _, _, rfl, rfl, sQ _ _ eK, upd_same, ?_, fun q3 m3' => ?_⟩
        · rw [List.length_map, List.length_range]
          show 18 ≤ sizeLine
          decide
        have sR := same_new (o := .lst (((List.range 15).map fun z : Nat => V.bl (decide (V.int (0 + (z : Int)) = V.int (j : Int)))) ++ [V.bl (decide ((j : Int) < 13)), V.bl (decide ((j : Int) < 13)), V.bl (!decide ((j : Int) < 13))])) m3'
        have eq : ((List.range 15).map fun z : Nat => V.bl (decide (V.int (0 + (z : Int)) = V.int (j : Int)))) ++ [V.bl (decide ((j : Int) < 13)), V.bl (decide ((j : Int) < 13)), V.bl (!decide ((j : Int) < 13))] = (ansL j).map V.bl := by
          have h1 : (fun z : Nat => V.bl (decide (V.int (0 + (z : Int)) = V.int (j : Int)))) = fun z => V.bl (decide (z = j)) := by
            funext z
            congr 1
            apply decide_eq_decide.mpr
            constructor
            · intro h
              have := V.int.inj h
              omega
            · rintro rfl
              rw [Int.zero_add]
          have h2 : decide ((j : Int) < 13) = decide (j < 13) := decide_eq_decide.mpr (by omega)
          rw [h1, h2]
          rfl
        have sh := ans_ok j hj
        refine ⟨.list ((ansL j).map .bool), .list ((ansL j).map .bool), .lst (SqL.of (sR _ _ (sQ _ _ (sK _ _ eD)))) (dp_bls _), .lst (SqL.of (by rw [upd_same, eq])) (dp_bls _), sh.1, sh.1, _, rfl, ?_⟩
        rw [sh.2]
        refine iteF ⟨_, _, _, rfl, ?_⟩
        exact (((sC.trans sT).trans sD).trans sK).trans (sQ.trans sR)
  · refine .inl ⟨⟨es, SqL.of elC, by omega⟩, _, _, _, _, _, _, _, _, _, rfl, hbA.up sC⟩

end
end K40

set_option Elab.async false
set_option linter.all false
set_option maxRecDepth 100000
set_option maxHeartbeats 4000000
namespace LL
open PySem PySem.W PyProof.Rows
abbrev ndict : Option (Option Value) := some (some (.builtin "object.__setattr__"))
def ercB (K : Frag) (C : Addr) : Bool := hasDictIn K C && (decide (findIn K (.ref C) "__getattribute__" = some (some (.builtin "BaseException.__getattribute__"))) && (decide (findIn K (.ref C) "__getattr__" = some none) && (decide (subIn K (.ref C) (.type "BaseException") = some true) &&
  (decide (findIn K (.ref C) "__class__" = some (some (.builtin "object.__class__"))) && decide (mroIn K C (.type "object") = some true)))))
theorem erc_of {K : Frag} {C : Addr} (h : ercB K C = true) : ErC K C := by
  unfold ercB at h
  simp only [Bool.and_eq_true, decide_eq_true_eq] at h
  obtain ⟨h1, h2, h3, h4, h5, h6⟩ := h
  exact ⟨h1, h2, h3, h4, h5, h6⟩
def extB (K : Frag) (C : Addr) (bmB : List Value) (newId : String) : Bool := excInitIn K C bmB newId && (excOver K C bmB && (decide (findIn K (.ref C) "__setattr__" = ndict) && keepIn K (.ref C)))
theorem ext_of {K : Frag} {C : Addr} {bmB : List Value} {newId : String} (h : extB K C bmB newId = true) (e : ErC K C) : ExT K C bmB newId := by
  unfold extB at h
  simp only [Bool.and_eq_true, decide_eq_true_eq] at h
  obtain ⟨h1, h2, h3, h4⟩ := h
  exact ⟨h1, h2, h3, e.hd, e.ga, e.gg, e.sub, h4⟩
def nonB (K : Frag) (C : Addr) (n : Str) : Bool := decide (findIn K (.ref C) n = some none)
end LL
namespace K40
open PySem PySem.Spec PyProof.Rows L2 LL
abbrev leB : List Value := [.type "LookupError", .type "Exception", .type "BaseException", .type "object"]
def kitsB (K : PySem.W.Frag) (cs : List Addr) : Bool := (List.range 15).all fun i => ((List.range 15).all fun j => PySem.W.kitOne K (.ref (cs.getD i 0)) (.ref (cs.getD j 0)) == some (decide (j = i))) &&
  (PySem.W.kitOne K (.ref (cs.getD i 0)) (.ref (cs.getD 15 0)) == some (decide (i < 13)) && (PySem.W.kitOne K (.ref (cs.getD i 0)) (.type "ValueError") == some (decide (i < 13)) && (PySem.W.kitOne K (.ref (cs.getD i 0)) (.type "LookupError") == some (!decide (i < 13)) && ercB K (cs.getD i 0))))
structure Kits (K : PySem.W.Frag) (c : Nat → Addr) : Prop where
  erc : ∀ i, i < 15 → ErC K (c i)
  kit : ∀ i j, i < 15 → j < 15 → PySem.W.kitOne K (.ref (c i)) (.ref (c j)) = some (decide (j = i))
  kP : ∀ i, i < 15 → PySem.W.kitOne K (.ref (c i)) (.ref (c 15)) = some (decide (i < 13))
  kV : ∀ i, i < 15 → PySem.W.kitOne K (.ref (c i)) (.type "ValueError") = some (decide (i < 13))
  kL : ∀ i, i < 15 → PySem.W.kitOne K (.ref (c i)) (.type "LookupError") = some (!decide (i < 13))
theorem kits_of {K : PySem.W.Frag} {cs : List Addr} (h : kitsB K cs = true) : Kits K (fun i => cs.getD i 0) := by
  have all : ∀ i, i < 15 → _ := fun i hi => List.all_eq_true.mp h i (List.mem_range.mpr hi)
  simp only [Bool.and_eq_true, beq_iff_eq] at all
  exact ⟨fun i hi => erc_of (all i hi).2.2.2.2, fun i j hi hj => by
    have z := List.all_eq_true.mp (all i hi).1 j (List.mem_range.mpr hj)
    exact beq_iff_eq.mp z, fun i hi => (all i hi).2.1, fun i hi => (all i hi).2.2.1, fun i hi => (all i hi).2.2.2.1⟩
abbrev sBadDay : Stmt := inClass (topS 2) 0
abbrev sBadDurations : Stmt := inClass (topS 3) 0
abbrev sBadFraction : Stmt := inClass (topS 4) 0
abbrev sBadMost : Stmt := inClass (topS 5) 0
abbrev sBadPlan : Stmt := inClass (topS 6) 0
abbrev sBadText : Stmt := inClass (topS 7) 0
abbrev sLate : Stmt := inClass (topS 9) 0
abbrev sNoBack : Stmt := inClass (topS 10) 0
abbrev sNoGroup : Stmt := inClass (topS 11) 0
abbrev sTooMany : Stmt := inClass (topS 14) 0
abbrev sNoPair : Stmt := inClass (topS 15) 0
abbrev sNoTask : Stmt := inClass (topS 16) 0
theorem er1_mk {K : PySem.W.Frag} {h : Heap} {mg : Str → Option Value} {x n : Str} {C fI : Addr} {B newId initId : String} {bmB : List Value} {qual : Str} {st : Stmt} {oc : Value} {od an : Option Addr} {sl : Array (Option Value)} {kV dc pm cd ct : Value}
    (X : K.In h) (G : h.Ns mainGlobals mg) (SF : StoreFacts B bmB "object.__setattr__" "object") (FB : ExcBaseFacts B newId initId bmB) (e : ErC K C)
    (Sc : FnScope ["self", n] ["self", n] (defScope st)) (l1 : (defScope st).names.lookup ("self" : Str) = some .local) (l2 : (defScope st).names.lookup n = some .local) (nd : (n == ("__debug__" : Str)) = false) {q1 q2 q3 q4 : Pos} (hb : defBody st = [.Assign [.Attribute (.Name "self" q1) n q2] (.Name n q3) q4])
    (bd : ∀ (kV doc pm : Value) (an : Option Addr) (cdv ct : Value) (us : List Value), us.length = (["self", n] : List Str).length → bindArgs (PySem.W.fnOf "__init__" qual (defArgs st) (defBody st) (defScope st) .none kV doc pm an cdv ct) ⟨us, []⟩ = pure ((["self", n] : List Str).zip us))
    (aC : PySem.W.nsIn K mainGlobals x = some (some (.ref C))) (t : extB K C bmB newId = true) (no : PySem.W.findIn K (.ref C) n = some none) (iC : PySem.W.findIn K (.ref C) "__init__" = some (some (.ref fI))) (tI : PySem.W.typeIn K (.ref fI) = some (.type "function"))
    (lI : K.lookup fI = some ⟨oc, od, .func (PySem.W.fnOf "__init__" qual (defArgs st) (defBody st) (defScope st) .none kV dc pm an cd ct), sl⟩) (cI : PySem.W.codeIn K cd qual = true) (kI : PySem.W.keepIn K (.ref fI) = true) : Er1 K mg x n C := by
  have T := ext_of t e
  have F := fun_mk lI cI kI
  exact ⟨PySem.W.mg_of X G aC, no, T.kp, fun X' lim room hq => made1 SF FB T no iC tI F Sc (F.binds bd) l1 l2 nd hb X' lim room hq⟩
theorem er2_mk {K : PySem.W.Frag} {h : Heap} {mg : Str → Option Value} {x n n2 : Str} {C fI : Addr} {B newId initId : String} {bmB : List Value} {qual : Str} {st : Stmt} {oc : Value} {od an : Option Addr} {sl : Array (Option Value)} {kV dc pm cd ct : Value}
    (X : K.In h) (G : h.Ns mainGlobals mg) (SF : StoreFacts B bmB "object.__setattr__" "object") (FB : ExcBaseFacts B newId initId bmB) (e : ErC K C)
    (Sc : FnScope ["self", n, n2] ["self", n, n2] (defScope st)) (l1 : (defScope st).names.lookup ("self" : Str) = some .local) (l2 : (defScope st).names.lookup n = some .local) (l3 : (defScope st).names.lookup n2 = some .local) (nd : (n == ("__debug__" : Str)) = false) (nd2 : (n2 == ("__debug__" : Str)) = false)
    {q1 q2 q3 q4 q5 q6 q7 q8 : Pos} (hb : defBody st = [.Assign [.Attribute (.Name "self" q1) n q2] (.Name n q3) q4, .Assign [.Attribute (.Name "self" q5) n2 q6] (.Name n2 q7) q8])
    (bd : ∀ (kV doc pm : Value) (an : Option Addr) (cdv ct : Value) (us : List Value), us.length = (["self", n, n2] : List Str).length → bindArgs (PySem.W.fnOf "__init__" qual (defArgs st) (defBody st) (defScope st) .none kV doc pm an cdv ct) ⟨us, []⟩ = pure ((["self", n, n2] : List Str).zip us))
    (aC : PySem.W.nsIn K mainGlobals x = some (some (.ref C))) (t : extB K C bmB newId = true) (no : PySem.W.findIn K (.ref C) n = some none) (no2 : PySem.W.findIn K (.ref C) n2 = some none) (iC : PySem.W.findIn K (.ref C) "__init__" = some (some (.ref fI))) (tI : PySem.W.typeIn K (.ref fI) = some (.type "function"))
    (lI : K.lookup fI = some ⟨oc, od, .func (PySem.W.fnOf "__init__" qual (defArgs st) (defBody st) (defScope st) .none kV dc pm an cd ct), sl⟩) (cI : PySem.W.codeIn K cd qual = true) (kI : PySem.W.keepIn K (.ref fI) = true) : Er2 K mg x n n2 C := by
  have T := ext_of t e
  have F := fun_mk lI cI kI
  exact ⟨PySem.W.mg_of X G aC, no, no2, T.kp, fun X' lim room hq => made2 SF FB T no no2 iC tI F Sc (F.binds bd) l1 l2 l3 nd nd2 hb X' lim room hq⟩
theorem all_mk {l : PySem.W.OpenLaw} {w : World} {K : PySem.W.Frag} {h : Heap} {mg : Str → Option Value} {fa CP : Addr} {C0 : Addr} {C1 : Addr} {C2 : Addr} {C3 : Addr} {C4 : Addr} {C5 : Addr} {C6 : Addr} {C7 : Addr} {C8 : Addr} {C9 : Addr} {C10 : Addr} {C11 : Addr} {C12 : Addr} {C13 : Addr} {C14 : Addr} {fI0 : Addr} {oc0 kV0 dc0 pm0 cd0 ct0 : Value} {od0 an0 : Option Addr} {sl0 : Array (Option Value)} {fI1 : Addr} {oc1 kV1 dc1 pm1 cd1 ct1 : Value} {od1 an1 : Option Addr} {sl1 : Array (Option Value)} {fI2 : Addr} {oc2 kV2 dc2 pm2 cd2 ct2 : Value} {od2 an2 : Option Addr} {sl2 : Array (Option Value)} {fI3 : Addr} {oc3 kV3 dc3 pm3 cd3 ct3 : Value} {od3 an3 : Option Addr} {sl3 : Array (Option Value)} {fI4 : Addr} {oc4 kV4 dc4 pm4 cd4 ct4 : Value} {od4 an4 : Option Addr} {sl4 : Array (Option Value)} {fI5 : Addr} {oc5 kV5 dc5 pm5 cd5 ct5 : Value} {od5 an5 : Option Addr} {sl5 : Array (Option Value)} {fI7 : Addr} {oc7 kV7 dc7 pm7 cd7 ct7 : Value} {od7 an7 : Option Addr} {sl7 : Array (Option Value)} {fI8 : Addr} {oc8 kV8 dc8 pm8 cd8 ct8 : Value} {od8 an8 : Option Addr} {sl8 : Array (Option Value)} {fI9 : Addr} {oc9 kV9 dc9 pm9 cd9 ct9 : Value} {od9 an9 : Option Addr} {sl9 : Array (Option Value)} {fI12 : Addr} {oc12 kV12 dc12 pm12 cd12 ct12 : Value} {od12 an12 : Option Addr} {sl12 : Array (Option Value)} {fI13 : Addr} {oc13 kV13 dc13 pm13 cd13 ct13 : Value} {od13 an13 : Option Addr} {sl13 : Array (Option Value)} {fI14 : Addr} {oc14 kV14 dc14 pm14 cd14 ct14 : Value} {od14 an14 : Option Addr} {sl14 : Array (Option Value)} {fB : Addr} {ocB kVB dcB pmB cdB ctB : Value} {odB anB : Option Addr} {slB : Array (Option Value)} {fD : Addr} {ocD kVD dcD pmD cdD ctD : Value} {odD anD : Option Addr} {slD : Array (Option Value)} {fP : Addr} {ocP kVP dcP pmP cdP ctP : Value} {odP anP : Option Addr} {slP : Array (Option Value)} {fO : Addr} {ocO kVO dcO pmO cdO ctO : Value} {odO anO : Option Addr} {slO : Array (Option Value)} {fS : Addr} {ocS kVS dcS pmS cdS ctS : Value} {odS anS : Option Addr} {slS : Array (Option Value)} {fM : Addr} {ocM kVM dcM pmM cdM ctM : Value} {odM anM : Option Addr} {slM : Array (Option Value)} {fL : Addr} {ocL kVL dcL pmL cdL ctL : Value} {odL anL : Option Addr} {slL : Array (Option Value)} {tkAPART : Tok} {tkCOURSES : Tok} {tkEDITS : Tok} {tkPAIRS : Tok} {tkTASKS : Tok} {tkWORKERS : Tok} (X : K.In h) (G : h.Ns mainGlobals mg) (hfa : mg "law" = some (.ref fa))
    (aC0 : PySem.W.nsIn K mainGlobals "BadDay" = some (some (.ref C0)))
    (aC1 : PySem.W.nsIn K mainGlobals "BadDurations" = some (some (.ref C1)))
    (aC2 : PySem.W.nsIn K mainGlobals "BadFraction" = some (some (.ref C2)))
    (aC3 : PySem.W.nsIn K mainGlobals "BadMost" = some (some (.ref C3)))
    (aC4 : PySem.W.nsIn K mainGlobals "BadPlan" = some (some (.ref C4)))
    (aC5 : PySem.W.nsIn K mainGlobals "BadText" = some (some (.ref C5)))
    (aC6 : PySem.W.nsIn K mainGlobals "Full" = some (some (.ref C6)))
    (aC7 : PySem.W.nsIn K mainGlobals "Late" = some (some (.ref C7)))
    (aC8 : PySem.W.nsIn K mainGlobals "NoBack" = some (some (.ref C8)))
    (aC9 : PySem.W.nsIn K mainGlobals "NoGroup" = some (some (.ref C9)))
    (aC10 : PySem.W.nsIn K mainGlobals "NotBeside" = some (some (.ref C10)))
    (aC11 : PySem.W.nsIn K mainGlobals "NothingToUndo" = some (some (.ref C11)))
    (aC12 : PySem.W.nsIn K mainGlobals "TooMany" = some (some (.ref C12)))
    (aC13 : PySem.W.nsIn K mainGlobals "NoPair" = some (some (.ref C13)))
    (aC14 : PySem.W.nsIn K mainGlobals "NoTask" = some (some (.ref C14)))
    (aPE : PySem.W.nsIn K mainGlobals "PlanError" = some (some (.ref CP)))
    (kits : kitsB K [C0, C1, C2, C3, C4, C5, C6, C7, C8, C9, C10, C11, C12, C13, C14, CP] = true)
    (t0 : extB K C0 veB "ValueError.__new__" = true)
    (no0_0 : PySem.W.findIn K (.ref C0) "value" = some none)
    (iC0 : PySem.W.findIn K (.ref C0) "__init__" = some (some (.ref fI0)))
    (tI0 : PySem.W.typeIn K (.ref fI0) = some (.type "function"))
    (lI0 : K.lookup fI0 = some ⟨oc0, od0, .func (PySem.W.fnOf "__init__" "BadDay.__init__" (defArgs sBadDay) (defBody sBadDay) (defScope sBadDay) .none kV0 dc0 pm0 an0 cd0 ct0), sl0⟩)
    (cI0 : PySem.W.codeIn K cd0 "BadDay.__init__" = true)
    (kI0 : PySem.W.keepIn K (.ref fI0) = true)
    (t1 : extB K C1 veB "ValueError.__new__" = true)
    (no1_0 : PySem.W.findIn K (.ref C1) "index" = some none)
    (iC1 : PySem.W.findIn K (.ref C1) "__init__" = some (some (.ref fI1)))
    (tI1 : PySem.W.typeIn K (.ref fI1) = some (.type "function"))
    (lI1 : K.lookup fI1 = some ⟨oc1, od1, .func (PySem.W.fnOf "__init__" "BadDurations.__init__" (defArgs sBadDurations) (defBody sBadDurations) (defScope sBadDurations) .none kV1 dc1 pm1 an1 cd1 ct1), sl1⟩)
    (cI1 : PySem.W.codeIn K cd1 "BadDurations.__init__" = true)
    (kI1 : PySem.W.keepIn K (.ref fI1) = true)
    (t2 : extB K C2 veB "ValueError.__new__" = true)
    (no2_0 : PySem.W.findIn K (.ref C2) "place" = some none)
    (iC2 : PySem.W.findIn K (.ref C2) "__init__" = some (some (.ref fI2)))
    (tI2 : PySem.W.typeIn K (.ref fI2) = some (.type "function"))
    (lI2 : K.lookup fI2 = some ⟨oc2, od2, .func (PySem.W.fnOf "__init__" "BadFraction.__init__" (defArgs sBadFraction) (defBody sBadFraction) (defScope sBadFraction) .none kV2 dc2 pm2 an2 cd2 ct2), sl2⟩)
    (cI2 : PySem.W.codeIn K cd2 "BadFraction.__init__" = true)
    (kI2 : PySem.W.keepIn K (.ref fI2) = true)
    (t3 : extB K C3 veB "ValueError.__new__" = true)
    (no3_0 : PySem.W.findIn K (.ref C3) "most" = some none)
    (iC3 : PySem.W.findIn K (.ref C3) "__init__" = some (some (.ref fI3)))
    (tI3 : PySem.W.typeIn K (.ref fI3) = some (.type "function"))
    (lI3 : K.lookup fI3 = some ⟨oc3, od3, .func (PySem.W.fnOf "__init__" "BadMost.__init__" (defArgs sBadMost) (defBody sBadMost) (defScope sBadMost) .none kV3 dc3 pm3 an3 cd3 ct3), sl3⟩)
    (cI3 : PySem.W.codeIn K cd3 "BadMost.__init__" = true)
    (kI3 : PySem.W.keepIn K (.ref fI3) = true)
    (t4 : extB K C4 veB "ValueError.__new__" = true)
    (no4_0 : PySem.W.findIn K (.ref C4) "number" = some none)
    (no4_1 : PySem.W.findIn K (.ref C4) "word" = some none)
    (iC4 : PySem.W.findIn K (.ref C4) "__init__" = some (some (.ref fI4)))
    (tI4 : PySem.W.typeIn K (.ref fI4) = some (.type "function"))
    (lI4 : K.lookup fI4 = some ⟨oc4, od4, .func (PySem.W.fnOf "__init__" "BadPlan.__init__" (defArgs sBadPlan) (defBody sBadPlan) (defScope sBadPlan) .none kV4 dc4 pm4 an4 cd4 ct4), sl4⟩)
    (cI4 : PySem.W.codeIn K cd4 "BadPlan.__init__" = true)
    (kI4 : PySem.W.keepIn K (.ref fI4) = true)
    (t5 : extB K C5 veB "ValueError.__new__" = true)
    (no5_0 : PySem.W.findIn K (.ref C5) "line" = some none)
    (iC5 : PySem.W.findIn K (.ref C5) "__init__" = some (some (.ref fI5)))
    (tI5 : PySem.W.typeIn K (.ref fI5) = some (.type "function"))
    (lI5 : K.lookup fI5 = some ⟨oc5, od5, .func (PySem.W.fnOf "__init__" "BadText.__init__" (defArgs sBadText) (defBody sBadText) (defScope sBadText) .none kV5 dc5 pm5 an5 cd5 ct5), sl5⟩)
    (cI5 : PySem.W.codeIn K cd5 "BadText.__init__" = true)
    (kI5 : PySem.W.keepIn K (.ref fI5) = true)
    (w6 : PySem.W.excInitIn K C6 veB "ValueError.__new__" = true)
    (iC6 : PySem.W.findIn K (.ref C6) "__init__" = some (some (.builtin "ValueError.__init__")))
    (kC6 : PySem.W.keepIn K (.ref C6) = true)
    (t7 : extB K C7 veB "ValueError.__new__" = true)
    (no7_0 : PySem.W.findIn K (.ref C7) "durations" = some none)
    (iC7 : PySem.W.findIn K (.ref C7) "__init__" = some (some (.ref fI7)))
    (tI7 : PySem.W.typeIn K (.ref fI7) = some (.type "function"))
    (lI7 : K.lookup fI7 = some ⟨oc7, od7, .func (PySem.W.fnOf "__init__" "Late.__init__" (defArgs sLate) (defBody sLate) (defScope sLate) .none kV7 dc7 pm7 an7 cd7 ct7), sl7⟩)
    (cI7 : PySem.W.codeIn K cd7 "Late.__init__" = true)
    (kI7 : PySem.W.keepIn K (.ref fI7) = true)
    (t8 : extB K C8 veB "ValueError.__new__" = true)
    (no8_0 : PySem.W.findIn K (.ref C8) "many" = some none)
    (iC8 : PySem.W.findIn K (.ref C8) "__init__" = some (some (.ref fI8)))
    (tI8 : PySem.W.typeIn K (.ref fI8) = some (.type "function"))
    (lI8 : K.lookup fI8 = some ⟨oc8, od8, .func (PySem.W.fnOf "__init__" "NoBack.__init__" (defArgs sNoBack) (defBody sNoBack) (defScope sNoBack) .none kV8 dc8 pm8 an8 cd8 ct8), sl8⟩)
    (cI8 : PySem.W.codeIn K cd8 "NoBack.__init__" = true)
    (kI8 : PySem.W.keepIn K (.ref fI8) = true)
    (t9 : extB K C9 veB "ValueError.__new__" = true)
    (no9_0 : PySem.W.findIn K (.ref C9) "group" = some none)
    (iC9 : PySem.W.findIn K (.ref C9) "__init__" = some (some (.ref fI9)))
    (tI9 : PySem.W.typeIn K (.ref fI9) = some (.type "function"))
    (lI9 : K.lookup fI9 = some ⟨oc9, od9, .func (PySem.W.fnOf "__init__" "NoGroup.__init__" (defArgs sNoGroup) (defBody sNoGroup) (defScope sNoGroup) .none kV9 dc9 pm9 an9 cd9 ct9), sl9⟩)
    (cI9 : PySem.W.codeIn K cd9 "NoGroup.__init__" = true)
    (kI9 : PySem.W.keepIn K (.ref fI9) = true)
    (w10 : PySem.W.excInitIn K C10 veB "ValueError.__new__" = true)
    (iC10 : PySem.W.findIn K (.ref C10) "__init__" = some (some (.builtin "ValueError.__init__")))
    (kC10 : PySem.W.keepIn K (.ref C10) = true)
    (w11 : PySem.W.excInitIn K C11 veB "ValueError.__new__" = true)
    (iC11 : PySem.W.findIn K (.ref C11) "__init__" = some (some (.builtin "ValueError.__init__")))
    (kC11 : PySem.W.keepIn K (.ref C11) = true)
    (t12 : extB K C12 veB "ValueError.__new__" = true)
    (no12_0 : PySem.W.findIn K (.ref C12) "limit" = some none)
    (iC12 : PySem.W.findIn K (.ref C12) "__init__" = some (some (.ref fI12)))
    (tI12 : PySem.W.typeIn K (.ref fI12) = some (.type "function"))
    (lI12 : K.lookup fI12 = some ⟨oc12, od12, .func (PySem.W.fnOf "__init__" "TooMany.__init__" (defArgs sTooMany) (defBody sTooMany) (defScope sTooMany) .none kV12 dc12 pm12 an12 cd12 ct12), sl12⟩)
    (cI12 : PySem.W.codeIn K cd12 "TooMany.__init__" = true)
    (kI12 : PySem.W.keepIn K (.ref fI12) = true)
    (t13 : extB K C13 leB "LookupError.__new__" = true)
    (no13_0 : PySem.W.findIn K (.ref C13) "before" = some none)
    (no13_1 : PySem.W.findIn K (.ref C13) "behind" = some none)
    (iC13 : PySem.W.findIn K (.ref C13) "__init__" = some (some (.ref fI13)))
    (tI13 : PySem.W.typeIn K (.ref fI13) = some (.type "function"))
    (lI13 : K.lookup fI13 = some ⟨oc13, od13, .func (PySem.W.fnOf "__init__" "NoPair.__init__" (defArgs sNoPair) (defBody sNoPair) (defScope sNoPair) .none kV13 dc13 pm13 an13 cd13 ct13), sl13⟩)
    (cI13 : PySem.W.codeIn K cd13 "NoPair.__init__" = true)
    (kI13 : PySem.W.keepIn K (.ref fI13) = true)
    (t14 : extB K C14 leB "LookupError.__new__" = true)
    (no14_0 : PySem.W.findIn K (.ref C14) "number" = some none)
    (iC14 : PySem.W.findIn K (.ref C14) "__init__" = some (some (.ref fI14)))
    (tI14 : PySem.W.typeIn K (.ref fI14) = some (.type "function"))
    (lI14 : K.lookup fI14 = some ⟨oc14, od14, .func (PySem.W.fnOf "__init__" "NoTask.__init__" (defArgs sNoTask) (defBody sNoTask) (defScope sNoTask) .none kV14 dc14 pm14 an14 cd14 ct14), sl14⟩)
    (cI14 : PySem.W.codeIn K cd14 "NoTask.__init__" = true)
    (kI14 : PySem.W.keepIn K (.ref fI14) = true)
    (aB : PySem.W.nsIn K mainGlobals "_law_bag" = some (some (.ref fB)))
    (lB : K.lookup fB = some ⟨ocB, odB, .func (PySem.W.fnOf "_law_bag" "_law_bag" (defArgs sBag) (defBody sBag) (defScope sBag) .none kVB dcB pmB anB cdB ctB), slB⟩)
    (cB : PySem.W.codeIn K cdB "_law_bag" = true)
    (kB : PySem.W.keepIn K (.ref fB) = true)
    (aD : PySem.W.nsIn K mainGlobals "_law_draw" = some (some (.ref fD)))
    (lD : K.lookup fD = some ⟨ocD, odD, .func (PySem.W.fnOf "_law_draw" "_law_draw" (defArgs sDraw) (defBody sDraw) (defScope sDraw) .none kVD dcD pmD anD cdD ctD), slD⟩)
    (cD : PySem.W.codeIn K cdD "_law_draw" = true)
    (kD : PySem.W.keepIn K (.ref fD) = true)
    (aP : PySem.W.nsIn K mainGlobals "_law_pick" = some (some (.ref fP)))
    (lP : K.lookup fP = some ⟨ocP, odP, .func (PySem.W.fnOf "_law_pick" "_law_pick" (defArgs sPick) (defBody sPick) (defScope sPick) .none kVP dcP pmP anP cdP ctP), slP⟩)
    (cP : PySem.W.codeIn K cdP "_law_pick" = true)
    (kP : PySem.W.keepIn K (.ref fP) = true)
    (aO : PySem.W.nsIn K mainGlobals "_law_odd" = some (some (.ref fO)))
    (lO : K.lookup fO = some ⟨ocO, odO, .func (PySem.W.fnOf "_law_odd" "_law_odd" (defArgs sOdd) (defBody sOdd) (defScope sOdd) .none kVO dcO pmO anO cdO ctO), slO⟩)
    (cO : PySem.W.codeIn K cdO "_law_odd" = true)
    (kO : PySem.W.keepIn K (.ref fO) = true)
    (aS : PySem.W.nsIn K mainGlobals "_law_sorts" = some (some (.ref fS)))
    (lS : K.lookup fS = some ⟨ocS, odS, .func (PySem.W.fnOf "_law_sorts" "_law_sorts" (defArgs sSorts) (defBody sSorts) (defScope sSorts) .none kVS dcS pmS anS cdS ctS), slS⟩)
    (cS : PySem.W.codeIn K cdS "_law_sorts" = true)
    (kS : PySem.W.keepIn K (.ref fS) = true)
    (aM : PySem.W.nsIn K mainGlobals "_law_made" = some (some (.ref fM)))
    (lM : K.lookup fM = some ⟨ocM, odM, .func (PySem.W.fnOf "_law_made" "_law_made" (defArgs sMade) (defBody sMade) (defScope sMade) .none kVM dcM pmM anM cdM ctM), slM⟩)
    (cM : PySem.W.codeIn K cdM "_law_made" = true)
    (kM : PySem.W.keepIn K (.ref fM) = true)
    (aL : PySem.W.nsIn K mainGlobals "law" = some (some (.ref fL)))
    (lL : K.lookup fL = some ⟨ocL, odL, .func (PySem.W.fnOf "law" "law" (defArgs sLaw) (defBody sLaw) (defScope sLaw) .none kVL dcL pmL anL cdL ctL), slL⟩)
    (cL : PySem.W.codeIn K cdL "law" = true)
    (kL : PySem.W.keepIn K (.ref fL) = true)
    (mAPART : PySem.W.nsIn K mainGlobals "MAX_APART" = some (some (.int 8 tkAPART)))
    (mCOURSES : PySem.W.nsIn K mainGlobals "MAX_COURSES" = some (some (.int 60 tkCOURSES)))
    (mEDITS : PySem.W.nsIn K mainGlobals "MAX_EDITS" = some (some (.int 20 tkEDITS)))
    (mPAIRS : PySem.W.nsIn K mainGlobals "MAX_PAIRS" = some (some (.int 1 tkPAIRS)))
    (mTASKS : PySem.W.nsIn K mainGlobals "MAX_TASKS" = some (some (.int 5 tkTASKS)))
    (mWORKERS : PySem.W.nsIn K mainGlobals "MAX_WORKERS" = some (some (.int 3 tkWORKERS)))
    (z_len : PySem.W.nsIn K mainGlobals "len" = some none)
    (z_abs : PySem.W.nsIn K mainGlobals "abs" = some none)
    (z_int : PySem.W.nsIn K mainGlobals "int" = some none)
    (z_isinstance : PySem.W.nsIn K mainGlobals "isinstance" = some none)
    (z_ValueError : PySem.W.nsIn K mainGlobals "ValueError" = some none)
    (z_LookupError : PySem.W.nsIn K mainGlobals "LookupError" = some none)
    (z_repr : PySem.W.nsIn K mainGlobals "repr" = some none)
    (z_range : PySem.W.nsIn K mainGlobals "range" = some none)
    (z_enumerate : PySem.W.nsIn K mainGlobals "enumerate" = some none)
    (sp : PySem.W.specialIn K (.builtin "object.__class__") "__get__" = some (some (.builtin "getset_descriptor.__get__")))
    (tk : PySem.W.takesIn K (.builtin "object.__class__") = some true)
    : ∃ fd : FuncData, (∀ (s : Shared) (v : Value), BindsTo s fd ⟨[v], []⟩ [("_law_script", v)]) ∧ ∀ base : Heap, K.In base → base.Ns mainGlobals mg → (∃ mm, base.Ns sysModules mm) → GOk l.prog w K mg base CX0 4 fa fd ["_law_script"] (spLaw K) := by
  have e := hfa.symm.trans (PySem.W.mg_of X G aL)
  cases e
  have KT := kits_of kits
  have e0 := er1_mk (n := "value") (st := sBadDay) X G PySem.F.store_ValueError PySem.F.excBase_ValueError (KT.erc 0 (by decide)) ⟨rfl, rfl, rfl, by decide +kernel, rfl, by decide +kernel, by decide +kernel⟩ rfl rfl (by decide) rfl (fun _ _ _ _ _ _ us hl => match us, hl with | [_, _], _ => rfl) aC0 t0 no0_0 iC0 tI0 lI0 cI0 kI0
  have e1 := er1_mk (n := "index") (st := sBadDurations) X G PySem.F.store_ValueError PySem.F.excBase_ValueError (KT.erc 1 (by decide)) ⟨rfl, rfl, rfl, by decide +kernel, rfl, by decide +kernel, by decide +kernel⟩ rfl rfl (by decide) rfl (fun _ _ _ _ _ _ us hl => match us, hl with | [_, _], _ => rfl) aC1 t1 no1_0 iC1 tI1 lI1 cI1 kI1
  have e2 := er1_mk (n := "place") (st := sBadFraction) X G PySem.F.store_ValueError PySem.F.excBase_ValueError (KT.erc 2 (by decide)) ⟨rfl, rfl, rfl, by decide +kernel, rfl, by decide +kernel, by decide +kernel⟩ rfl rfl (by decide) rfl (fun _ _ _ _ _ _ us hl => match us, hl with | [_, _], _ => rfl) aC2 t2 no2_0 iC2 tI2 lI2 cI2 kI2
  have e3 := er1_mk (n := "most") (st := sBadMost) X G PySem.F.store_ValueError PySem.F.excBase_ValueError (KT.erc 3 (by decide)) ⟨rfl, rfl, rfl, by decide +kernel, rfl, by decide +kernel, by decide +kernel⟩ rfl rfl (by decide) rfl (fun _ _ _ _ _ _ us hl => match us, hl with | [_, _], _ => rfl) aC3 t3 no3_0 iC3 tI3 lI3 cI3 kI3
  have e4 := er2_mk (n := "number") (n2 := "word") (st := sBadPlan) X G PySem.F.store_ValueError PySem.F.excBase_ValueError (KT.erc 4 (by decide)) ⟨rfl, rfl, rfl, by decide +kernel, rfl, by decide +kernel, by decide +kernel⟩ rfl rfl rfl (by decide) (by decide) rfl (fun _ _ _ _ _ _ us hl => match us, hl with | [_, _, _], _ => rfl) aC4 t4 no4_0 no4_1 iC4 tI4 lI4 cI4 kI4
  have e5 := er1_mk (n := "line") (st := sBadText) X G PySem.F.store_ValueError PySem.F.excBase_ValueError (KT.erc 5 (by decide)) ⟨rfl, rfl, rfl, by decide +kernel, rfl, by decide +kernel, by decide +kernel⟩ rfl rfl (by decide) rfl (fun _ _ _ _ _ _ us hl => match us, hl with | [_, _], _ => rfl) aC5 t5 no5_0 iC5 tI5 lI5 cI5 kI5
  have e6 : Er0 K mg "Full" C6 "ValueError.__new__" "ValueError.__init__" veB := ⟨PySem.W.mg_of X G aC6, kC6, w6, iC6⟩
  have e7 := er1_mk (n := "durations") (st := sLate) X G PySem.F.store_ValueError PySem.F.excBase_ValueError (KT.erc 7 (by decide)) ⟨rfl, rfl, rfl, by decide +kernel, rfl, by decide +kernel, by decide +kernel⟩ rfl rfl (by decide) rfl (fun _ _ _ _ _ _ us hl => match us, hl with | [_, _], _ => rfl) aC7 t7 no7_0 iC7 tI7 lI7 cI7 kI7
  have e8 := er1_mk (n := "many") (st := sNoBack) X G PySem.F.store_ValueError PySem.F.excBase_ValueError (KT.erc 8 (by decide)) ⟨rfl, rfl, rfl, by decide +kernel, rfl, by decide +kernel, by decide +kernel⟩ rfl rfl (by decide) rfl (fun _ _ _ _ _ _ us hl => match us, hl with | [_, _], _ => rfl) aC8 t8 no8_0 iC8 tI8 lI8 cI8 kI8
  have e9 := er1_mk (n := "group") (st := sNoGroup) X G PySem.F.store_ValueError PySem.F.excBase_ValueError (KT.erc 9 (by decide)) ⟨rfl, rfl, rfl, by decide +kernel, rfl, by decide +kernel, by decide +kernel⟩ rfl rfl (by decide) rfl (fun _ _ _ _ _ _ us hl => match us, hl with | [_, _], _ => rfl) aC9 t9 no9_0 iC9 tI9 lI9 cI9 kI9
  have e10 : Er0 K mg "NotBeside" C10 "ValueError.__new__" "ValueError.__init__" veB := ⟨PySem.W.mg_of X G aC10, kC10, w10, iC10⟩
  have e11 : Er0 K mg "NothingToUndo" C11 "ValueError.__new__" "ValueError.__init__" veB := ⟨PySem.W.mg_of X G aC11, kC11, w11, iC11⟩
  have e12 := er1_mk (n := "limit") (st := sTooMany) X G PySem.F.store_ValueError PySem.F.excBase_ValueError (KT.erc 12 (by decide)) ⟨rfl, rfl, rfl, by decide +kernel, rfl, by decide +kernel, by decide +kernel⟩ rfl rfl (by decide) rfl (fun _ _ _ _ _ _ us hl => match us, hl with | [_, _], _ => rfl) aC12 t12 no12_0 iC12 tI12 lI12 cI12 kI12
  have e13 := er2_mk (n := "before") (n2 := "behind") (st := sNoPair) X G PySem.F.store_LookupError PySem.F.excBase_LookupError (KT.erc 13 (by decide)) ⟨rfl, rfl, rfl, by decide +kernel, rfl, by decide +kernel, by decide +kernel⟩ rfl rfl rfl (by decide) (by decide) rfl (fun _ _ _ _ _ _ us hl => match us, hl with | [_, _, _], _ => rfl) aC13 t13 no13_0 no13_1 iC13 tI13 lI13 cI13 kI13
  have e14 := er1_mk (n := "number") (st := sNoTask) X G PySem.F.store_LookupError PySem.F.excBase_LookupError (KT.erc 14 (by decide)) ⟨rfl, rfl, rfl, by decide +kernel, rfl, by decide +kernel, by decide +kernel⟩ rfl rfl (by decide) rfl (fun _ _ _ _ _ _ us hl => match us, hl with | [_, _], _ => rfl) aC14 t14 no14_0 iC14 tI14 lI14 cI14 kI14
  have ec : EC K mg (fun i => [C0, C1, C2, C3, C4, C5, C6, C7, C8, C9, C10, C11, C12, C13, C14, CP].getD i 0) := ⟨e0, e1, e2, e3, e4, e5, e6, e7, e8, e9, e10, e11, e12, e13, e14, PySem.W.mg_of X G aPE, KT.erc, KT.kit, KT.kP, KT.kV, KT.kL, ⟨sp, tk⟩⟩
  have FB := fun_mk (st := sBag) lB cB kB
  have bB := FB.binds (ps := ["_law_script"]) fun _ _ _ _ _ _ us hl => match us, hl with | [_], _ => rfl
  have FD := fun_mk (st := sDraw) lD cD kD
  have bD := FD.binds (ps := ["_law_bag_here", "_law_many"]) fun _ _ _ _ _ _ us hl => match us, hl with | [_, _], _ => rfl
  have FP := fun_mk (st := sPick) lP cP kP
  have bP := FP.binds (ps := ["_law_bag_here", "_law_items"]) fun _ _ _ _ _ _ us hl => match us, hl with | [_, _], _ => rfl
  have FO := fun_mk (st := sOdd) lO cO kO
  have bO := FO.binds (ps := ["_law_bag_here"]) fun _ _ _ _ _ _ us hl => match us, hl with | [_], _ => rfl
  have FS := fun_mk (st := sSorts) lS cS kS
  have bS := FS.binds (ps := ["_law_error"]) fun _ _ _ _ _ _ us hl => match us, hl with | [_], _ => rfl
  have FM := fun_mk (st := sMade) lM cM kM
  have bM := FM.binds (ps := ["_law_p", "_law_q"]) fun _ _ _ _ _ _ us hl => match us, hl with | [_, _], _ => rfl
  have FL := fun_mk (st := sLaw) lL cL kL
  have T : LT K mg _ fB fO fP fM fS _ _ _ _ _ := ⟨ec, (PySem.W.mg_of X G aB), (PySem.W.mg_of X G aO), (PySem.W.mg_of X G aP), (PySem.W.mg_of X G aM), (PySem.W.mg_of X G aS), kB, kO, kP, kM, kS, bB, bO, bP, bM, bS, ⟨_, PySem.W.mg_of X G mAPART⟩, ⟨_, PySem.W.mg_of X G mCOURSES⟩, ⟨_, PySem.W.mg_of X G mEDITS⟩, ⟨_, PySem.W.mg_of X G mPAIRS⟩, ⟨_, PySem.W.mg_of X G mTASKS⟩, ⟨_, PySem.W.mg_of X G mWORKERS⟩, (PySem.W.mg_none_of X G z_repr), (PySem.W.mg_none_of X G z_range), (PySem.W.mg_none_of X G z_enumerate)⟩
  refine ⟨PySem.W.fnOf "law" "law" (defArgs sLaw) (defBody sLaw) (defScope sLaw) .none kVL dcL pmL anL cdL ctL, fun s v => .of_eq rfl, fun base _ _ sm => ?_⟩
  have GP := ok_pick (P := l.prog) (w := w) (base := base) FP FD bD (PySem.W.mg_of X G aD) (PySem.W.mg_none_of X G z_int) (PySem.W.mg_none_of X G z_len)
  exact ok_law FL T sm (ok_bag FB (PySem.W.mg_none_of X G z_len) (PySem.W.mg_none_of X G z_abs) (PySem.W.mg_none_of X G z_int)) (ok_odd FO FP bP (PySem.W.mg_of X G aP) GP) GP (ok_made FM ec) (ok_sorts FS ec (PySem.W.mg_none_of X G z_isinstance) (PySem.W.mg_none_of X G z_ValueError) (PySem.W.mg_none_of X G z_LookupError))
end K40

set_option Elab.async false
set_option linter.all false
open PySem PySem.W PyProof.Rows
set_option maxRecDepth 100000 in
set_option maxHeartbeats 0 in
theorem PySem.Challenge.cw_lesslater_k40_errors_and_bounds_holds : PySem.Challenge.rw_lesslater_k40_errors_and_bounds.Holds := by
  w_on; o_law; k_head; (case hw => w_witness2)
  k_fill
  refine LL.walk_G (l := PySem.Challenge.rw_lesslater_k40_errors_and_bounds) (n := 63) (k := 4) (x := "_law_script") (sp := fun w => K40.spLaw _) rfl (by decide) rfl (by decide +kernel) ⟨rfl, by decide, by decide⟩ (fun w h Y => PySem.W.kIn_of Y) ?F (fun _ _ a ns hl _ _ hS => ⟨a, ns, rfl, hS, hl, fun _ => rfl⟩)
  case F =>
    intro w mg fa h KX G hmg
    refine' K40.all_mk KX G hmg ?aC0 ?aC1 ?aC2 ?aC3 ?aC4 ?aC5 ?aC6 ?aC7 ?aC8 ?aC9 ?aC10 ?aC11 ?aC12 ?aC13 ?aC14 ?aPE ?kits ?t0 ?no0_0 ?iC0 ?tI0 ?lI0 ?cI0 ?kI0 ?t1 ?no1_0 ?iC1 ?tI1 ?lI1 ?cI1 ?kI1 ?t2 ?no2_0 ?iC2 ?tI2 ?lI2 ?cI2 ?kI2 ?t3 ?no3_0 ?iC3 ?tI3 ?lI3 ?cI3 ?kI3 ?t4 ?no4_0 ?no4_1 ?iC4 ?tI4 ?lI4 ?cI4 ?kI4 ?t5 ?no5_0 ?iC5 ?tI5 ?lI5 ?cI5 ?kI5 ?w6 ?iC6 ?kC6 ?t7 ?no7_0 ?iC7 ?tI7 ?lI7 ?cI7 ?kI7 ?t8 ?no8_0 ?iC8 ?tI8 ?lI8 ?cI8 ?kI8 ?t9 ?no9_0 ?iC9 ?tI9 ?lI9 ?cI9 ?kI9 ?w10 ?iC10 ?kC10 ?w11 ?iC11 ?kC11 ?t12 ?no12_0 ?iC12 ?tI12 ?lI12 ?cI12 ?kI12 ?t13 ?no13_0 ?no13_1 ?iC13 ?tI13 ?lI13 ?cI13 ?kI13 ?t14 ?no14_0 ?iC14 ?tI14 ?lI14 ?cI14 ?kI14 ?aB ?lB ?cB ?kB ?aD ?lD ?cD ?kD ?aP ?lP ?cP ?kP ?aO ?lO ?cO ?kO ?aS ?lS ?cS ?kS ?aM ?lM ?cM ?kM ?aL ?lL ?cL ?kL ?mAPART ?mCOURSES ?mEDITS ?mPAIRS ?mTASKS ?mWORKERS ?z_len ?z_abs ?z_int ?z_isinstance ?z_ValueError ?z_LookupError ?z_repr ?z_range ?z_enumerate ?sp ?tk
    (case aC0 => k_is)
    (case aC1 => k_is)
    (case aC2 => k_is)
    (case aC3 => k_is)
    (case aC4 => k_is)
    (case aC5 => k_is)
    (case aC6 => k_is)
    (case aC7 => k_is)
    (case aC8 => k_is)
    (case aC9 => k_is)
    (case aC10 => k_is)
    (case aC11 => k_is)
    (case aC12 => k_is)
    (case aC13 => k_is)
    (case aC14 => k_is)
    (case aPE => k_is)
    (case kits => kernel_rfl)
    (case t0 => kernel_rfl)
    (case no0_0 => k_is)
    (case iC0 => k_is)
    (case tI0 => k_is)
    (case lI0 => k_is)
    (case cI0 => k_is)
    (case kI0 => k_is)
    (case t1 => kernel_rfl)
    (case no1_0 => k_is)
    (case iC1 => k_is)
    (case tI1 => k_is)
    (case lI1 => k_is)
    (case cI1 => k_is)
    (case kI1 => k_is)
    (case t2 => kernel_rfl)
    (case no2_0 => k_is)
    (case iC2 => k_is)
    (case tI2 => k_is)
    (case lI2 => k_is)
    (case cI2 => k_is)
    (case kI2 => k_is)
    (case t3 => kernel_rfl)
    (case no3_0 => k_is)
    (case iC3 => k_is)
    (case tI3 => k_is)
    (case lI3 => k_is)
    (case cI3 => k_is)
    (case kI3 => k_is)
    (case t4 => kernel_rfl)
    (case no4_0 => k_is)
    (case no4_1 => k_is)
    (case iC4 => k_is)
    (case tI4 => k_is)
    (case lI4 => k_is)
    (case cI4 => k_is)
    (case kI4 => k_is)
    (case t5 => kernel_rfl)
    (case no5_0 => k_is)
    (case iC5 => k_is)
    (case tI5 => k_is)
    (case lI5 => k_is)
    (case cI5 => k_is)
    (case kI5 => k_is)
    (case w6 => first | kx_is | kernel_rfl)
    (case iC6 => k_is)
    (case kC6 => k_is)
    (case t7 => kernel_rfl)
    (case no7_0 => k_is)
    (case iC7 => k_is)
    (case tI7 => k_is)
    (case lI7 => k_is)
    (case cI7 => k_is)
    (case kI7 => k_is)
    (case t8 => kernel_rfl)
    (case no8_0 => k_is)
    (case iC8 => k_is)
    (case tI8 => k_is)
    (case lI8 => k_is)
    (case cI8 => k_is)
    (case kI8 => k_is)
    (case t9 => kernel_rfl)
    (case no9_0 => k_is)
    (case iC9 => k_is)
    (case tI9 => k_is)
    (case lI9 => k_is)
    (case cI9 => k_is)
    (case kI9 => k_is)
    (case w10 => first | kx_is | kernel_rfl)
    (case iC10 => k_is)
    (case kC10 => k_is)
    (case w11 => first | kx_is | kernel_rfl)
    (case iC11 => k_is)
    (case kC11 => k_is)
    (case t12 => kernel_rfl)
    (case no12_0 => k_is)
    (case iC12 => k_is)
    (case tI12 => k_is)
    (case lI12 => k_is)
    (case cI12 => k_is)
    (case kI12 => k_is)
    (case t13 => kernel_rfl)
    (case no13_0 => k_is)
    (case no13_1 => k_is)
    (case iC13 => k_is)
    (case tI13 => k_is)
    (case lI13 => k_is)
    (case cI13 => k_is)
    (case kI13 => k_is)
    (case t14 => kernel_rfl)
    (case no14_0 => k_is)
    (case iC14 => k_is)
    (case tI14 => k_is)
    (case lI14 => k_is)
    (case cI14 => k_is)
    (case kI14 => k_is)
    (case aB => k_is)
    (case lB => k_is)
    (case cB => k_is)
    (case kB => k_is)
    (case aD => k_is)
    (case lD => k_is)
    (case cD => k_is)
    (case kD => k_is)
    (case aP => k_is)
    (case lP => k_is)
    (case cP => k_is)
    (case kP => k_is)
    (case aO => k_is)
    (case lO => k_is)
    (case cO => k_is)
    (case kO => k_is)
    (case aS => k_is)
    (case lS => k_is)
    (case cS => k_is)
    (case kS => k_is)
    (case aM => k_is)
    (case lM => k_is)
    (case cM => k_is)
    (case kM => k_is)
    (case aL => k_is)
    (case lL => k_is)
    (case cL => k_is)
    (case kL => k_is)
    (case mAPART => k_is)
    (case mCOURSES => k_is)
    (case mEDITS => k_is)
    (case mPAIRS => k_is)
    (case mTASKS => k_is)
    (case mWORKERS => k_is)
    (case z_len => k_is)
    (case z_abs => k_is)
    (case z_int => k_is)
    (case z_isinstance => k_is)
    (case z_ValueError => k_is)
    (case z_LookupError => k_is)
    (case z_repr => k_is)
    (case z_range => k_is)
    (case z_enumerate => k_is)
    (case sp => k_is)
    (case tk => k_is)
